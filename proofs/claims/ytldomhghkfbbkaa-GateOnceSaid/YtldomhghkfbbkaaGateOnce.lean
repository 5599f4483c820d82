/-
  GateOnce holds: of a Fill just as many tokens are taken as it laid, in whatever order the kinds come. No condition.
-/
import Derived.Test.YtldomhghkfbbkaaGateOps
import Derived.Test.YtldomhghkfbbkaaGateOthers
namespace Go.Proofs.Ytldomhghkfbbkaa.gateOnce
open Go.RowKit Go.ChangeShapes Go.WideShapes Gate GatePkg GateRef GateLaw GateOps Lib
set_option maxRecDepth 4000

/-- Parted numbers are no less than nought. -/
theorem nats (free low high : Int) (M : Nat) : ∃ p q : Nat, fst free low high M = p ∧ snd free low high M = q ∧ (fst free low high M).toNat = p ∧ (snd free low high M).toNat = q ∧ p + q ≤ M := by
  have hb : 0 ≤ fst free low high M ∧ 0 ≤ snd free low high M := by
    rcases hok : ok low high M with _ | _
    · obtain ⟨e1, e2⟩ := bad (free := free) hok
      omega
    · have := bounds hok (free := free)
      have := all hok (free := free)
      omega
  have hs := gateOthers.shares free low high M
  exact ⟨(fst free low high M).toNat, (snd free low high M).toNat, by omega, by omega, rfl, rfl, hs⟩

/-- One token less, as Go reckons it. -/
theorem less (p : Nat) (hp : p ≤ 256) : ∃ m : Int, IntKind.i64.wrap ((p : Int) - 1) = m ∧ (if m < 0 then (0 : Int) else m) = ((p - 1 : Nat) : Int) := by
  refine ⟨(p : Int) - 1, by rw [IntKind.wrap_i64]; omega, ?_⟩
  split <;> omega

set_option maxHeartbeats 8000000 in
theorem walk (many y z u : Int) (A : Option Addr) (n c : Nat) (w : World) (h0 : -9223372036854775808 ≤ many) (h1 : many ≤ 9223372036854775807) (_hy : B64 y) (hnc : n ≤ c) (hcm : c ≤ maxLen) (hr : Bools w w.heap.size A n) :
    Calls Try.prog 6 #[.int .i64 many, .agg #[.int .i64 y, .int .i64 z, .int .i64 u], .slice A n c] w fun e w' => e = .returned (.bool true) ∧ Below w.heap.size w w' := by
  have hnm := Nat.le_trans hnc hcm
  unfold maxLen at hnm
  clear hnc hcm _hy
  have HA := Lib.hid (fun W => awake_any W)
  have HB1 := Lib.hid ((Below.refl _ w).alloc (Nat.le_refl _) (.cells #[.int .i64 y, .int .i64 z, .int .i64 u] 36))
  have hc := heap_alloc_new w (.cells #[.int .i64 y, .int .i64 z, .int .i64 u] 36)
  have hs : (w.alloc (.cells #[.int .i64 y, .int .i64 z, .int .i64 u] 36)).heap.size = w.heap.size + 1 := by simp
  by_cases hm1 : many < 1
  · have HN := Lib.hid (fun W => New_bad many (.inl hm1) W)
    clear hr
    go_enter Try.func6, Try.ntmps6
    go_wp2_with (first | (refine (HA.out _).mono ?_; rintro e w1 ⟨rfl, hw⟩; subst hw; clear HA) | (refine (HN.out _).mono ?_; rintro e w1 ⟨rfl, hw⟩; subst hw; clear HN))
    go_ret
    exact ⟨by first | rfl | simp, HB1.out⟩
  by_cases hm2 : 256 < many
  · have HN := Lib.hid (fun W => New_bad many (.inr hm2) W)
    clear hr
    go_enter Try.func6, Try.ntmps6
    go_wp2_with (first | (refine (HA.out _).mono ?_; rintro e w1 ⟨rfl, hw⟩; subst hw; clear HA) | (refine (HN.out _).mono ?_; rintro e w1 ⟨rfl, hw⟩; subst hw; clear HN))
    go_ret
    exact ⟨by first | rfl | simp, HB1.out⟩
  obtain ⟨M, rfl⟩ : ∃ M : Nat, many = M := ⟨many.toNat, by omega⟩
  have HN := Lib.hid (fun W => New_ok M (by omega) (by omega) W)
  have HM := Lib.hid (show 1 ≤ M ∧ M ≤ 256 by omega)
  have HR := Lib.hid hr
  clear hr hm1 hm2 h0 h1
  go_enter Try.func6, Try.ntmps6
  go_wp2_with fail
  refine (HA.out _).mono ?_
  rintro e w1 ⟨rfl, hw⟩
  rw [← hw] at HB1 hc hs
  clear hw HA
  go_wp2_with fail
  refine (HN.out _).mono ?_
  rintro e w2 ⟨v, rfl, g, c1, c2, rfl, hg, hcc, hd, hG, hb2⟩
  clear HN
  have hx2 : w2.heap[w.heap.size]? = some (.cells #[.int .i64 y, .int .i64 z, .int .i64 u] 36 (0, 0)) := (hb2.block _ (by omega)).trans hc
  have HB2 := Lib.hid (show Below w.heap.size w w2 from HB1.out.trans (hb2.mono (by omega)))
  have HLE := Lib.hid (show w.heap.size < g ∧ w.heap.size < c1 ∧ w.heap.size < c2 by omega)
  have HF := Lib.hid (Fill_any hG 1 0 1)
  obtain ⟨p0, q0, _, _, e3, e4, _⟩ := nats 1 0 1 M
  rw [e3, e4] at HF
  clear e3 e4 hb2 hc hs hG hg hcc hd HB1
  go_wp2_with fail
  refine HF.out.mono ?_
  rintro e w3 ⟨rfl, hG, hK⟩
  have HB3 := Lib.hid (hK.below _ _ HB2.out (by have := HLE.out; omega) (by have := HLE.out; omega))
  have hx3 : w3.heap[w.heap.size]? = some (.cells #[.int .i64 y, .int .i64 z, .int .i64 u] 36 (0, 0)) := (hK.block _ (by have := HLE.out; omega) (by have := HLE.out; omega)).trans hx2
  clear HF HB2 hx2 hK
  obtain ⟨p, q, f1, f2, f3, f4, hpq⟩ := nats y z u M
  have HF := Lib.hid (Fill_any hG y z u)
  have HS := Lib.hid (fun W => Split_any y z u M W)
  rw [f3, f4] at HF
  rw [f1, f2] at HS
  have e0 : w3.cell? ⟨w.heap.size, 0, none⟩ = some (.int .i64 y) := by simp [World.cell?, hx3]
  have e1 : w3.cell? ⟨w.heap.size, 1, none⟩ = some (.int .i64 z) := by simp [World.cell?, hx3]
  have e2 : w3.cell? ⟨w.heap.size, 2, none⟩ = some (.int .i64 u) := by simp [World.cell?, hx3]
  have HPQ := Lib.hid hpq
  clear f1 f2 f3 f4 hG hpq
  go_wp2_with fail
  refine HF.out.mono ?_
  rintro e w4 ⟨rfl, hG, hK⟩
  have HB4 := Lib.hid (hK.below _ _ HB3.out (by have := HLE.out; omega) (by have := HLE.out; omega))
  have hx4 : w4.heap[w.heap.size]? = some (.cells #[.int .i64 y, .int .i64 z, .int .i64 u] 36 (0, 0)) := (hK.block _ (by have := HLE.out; omega) (by have := HLE.out; omega)).trans hx3
  clear HF HB3 hx3 hK e0 e1 e2
  have e0 : w4.cell? ⟨w.heap.size, 0, none⟩ = some (.int .i64 y) := by simp [World.cell?, hx4]
  have e1 : w4.cell? ⟨w.heap.size, 1, none⟩ = some (.int .i64 z) := by simp [World.cell?, hx4]
  have e2 : w4.cell? ⟨w.heap.size, 2, none⟩ = some (.int .i64 u) := by simp [World.cell?, hx4]
  have HG := Lib.hid hG
  clear hx4 hG
  go_wp2_with fail
  refine (HS.out _).mono ?_
  rintro e w5 ⟨rfl, hw⟩
  subst hw
  clear HS e0 e1 e2
  go_wp2_with fail
  go_loopw [10, 11, 12] (fun a b i wr => ∃ t p q : Nat, a = .int .i64 (p : Int) ∧ b = .int .i64 (q : Int) ∧ i = .int .i64 (t : Int) ∧ t ≤ n ∧ t ≤ 600 ∧ p + q ≤ M ∧ Gt wr g c1 c2 M p q ∧ Below w.heap.size w wr) (fun _ _ i _ => n - (intOf i).toNat)
  case atStart => exact ⟨0, p, q, rfl, rfl, rfl, Nat.zero_le _, Nat.zero_le _, HPQ.out, HG.out, HB4.out⟩
  case round =>
    clear HPQ HG HB4
    obtain ⟨t, a, b, rfl, rfl, rfl, htn, ht6, hab, hG, hB⟩ := hrel
    have HB := Lib.hid hB
    have HAB := Lib.hid hab
    have HTN := Lib.hid (And.intro htn ht6)
    by_cases hlt : t < n
    · by_cases hl6 : t < 600
      · have b1 : decide ((t : Int) < (n : Int)) = true := by simp; omega
        have b1n : decide (t < n) = true := by simp; omega
        have b2 : decide ((t : Int) < 600) = true := by simp; omega
        obtain ⟨bk, off, x, rfl, hbk, hcell⟩ := HR.out t hlt
        have hcr : wr.cell? ⟨bk, off + t, none⟩ = some (.bool x) := (World.cell?_of_block (w := w) (hB.block bk hbk)).trans hcell
        have hwi : IntKind.i64.wrap ((t : Int) + 1) = ((t + 1 : Nat) : Int) := by rw [IntKind.wrap_i64]; omega
        clear hcell hbk hB hab htn ht6
        cases x with
        | true =>
          obtain ⟨m, hm1, hm2⟩ := less a (by have := HAB.out; have := HM.out; omega)
          have T := Take_any hG 1
          have l1 : left a b 1 = a := by simp [left]
          have l2 : take1 a 1 = a - 1 := by simp [take1]
          have l3 : take2 b 1 = b := by simp [take2]
          rw [l1, l2, l3] at T
          have HAB1 := Lib.hid (show (a - 1) + b ≤ M by have := HAB.out; omega)
          generalize a - 1 = a1 at T hm2 HAB1
          have hda : decide ((0 : Int) < (a : Int)) = decide (0 < a) := by simp
          obtain ⟨ba, hdb⟩ : ∃ ba, decide (0 < a) = ba := ⟨_, rfl⟩
          rw [hdb] at T hda
          have HT := Lib.hid T
          clear T l1 l2 l3 hG
          go_wp2_with (refine HT.out.mono ?_; rintro e w6 ⟨rfl, hG6, hK6⟩; clear HT; have HG6 := Lib.hid hG6; have HK6 := Lib.hid hK6; clear hG6 hK6)
          go_roundw
          case rel => exact ⟨t + 1, a1, b, rfl, rfl, rfl, by have := HTN.out; omega, by omega, HAB1.out, HG6.out, HK6.out.below _ _ HB.out (by have := HLE.out; omega) (by have := HLE.out; omega)⟩
          case measure => simp [intOf]; omega
        | false =>
          obtain ⟨m, hm1, hm2⟩ := less b (by have := HAB.out; have := HM.out; omega)
          have T := Take_any hG 2
          have l1 : left a b 2 = b := by simp [left]
          have l2 : take1 a 2 = a := by simp [take1]
          have l3 : take2 b 2 = b - 1 := by simp [take2]
          rw [l1, l2, l3] at T
          have HAB1 := Lib.hid (show a + (b - 1) ≤ M by have := HAB.out; omega)
          generalize b - 1 = a1 at T hm2 HAB1
          have hda : decide ((0 : Int) < (b : Int)) = decide (0 < b) := by simp
          obtain ⟨ba, hdb⟩ : ∃ ba, decide (0 < b) = ba := ⟨_, rfl⟩
          rw [hdb] at T hda
          have HT := Lib.hid T
          clear T l1 l2 l3 hG
          go_wp2_with (refine HT.out.mono ?_; rintro e w6 ⟨rfl, hG6, hK6⟩; clear HT; have HG6 := Lib.hid hG6; have HK6 := Lib.hid hK6; clear hG6 hK6)
          go_roundw
          case rel => exact ⟨t + 1, a, a1, rfl, rfl, rfl, by have := HTN.out; omega, by omega, HAB1.out, HG6.out, HK6.out.below _ _ HB.out (by have := HLE.out; omega) (by have := HLE.out; omega)⟩
          case measure => simp [intOf]; omega
      · have b1 : decide ((t : Int) < (n : Int)) = true := by simp; omega
        have b1n : decide (t < n) = true := by simp; omega
        have b2 : decide ((t : Int) < 600) = false := by simp; omega
        have HL1 := Lib.hid (Left_any hG 1)
        have HL2 := Lib.hid (Left_any hG 2)
        have l1 : left a b 1 = a := by simp [left]
        have l2 : left a b 2 = b := by simp [left]
        rw [l1] at HL1
        rw [l2] at HL2
        clear l1 l2 hG hB hab htn ht6
        go_wp2_with (first | (refine HL1.out.mono ?_; rintro e w6 ⟨rfl, hw⟩; subst hw; clear HL1) | (refine HL2.out.mono ?_; rintro e w6 ⟨rfl, hw⟩; subst hw; clear HL2))
        go_ret
        exact ⟨by first | rfl | simp, HB.out⟩
    · have b1 : decide ((t : Int) < (n : Int)) = false := by simp; omega
      have b1n : decide (t < n) = false := by simp; omega
      have HL1 := Lib.hid (Left_any hG 1)
      have HL2 := Lib.hid (Left_any hG 2)
      have l1 : left a b 1 = a := by simp [left]
      have l2 : left a b 2 = b := by simp [left]
      rw [l1] at HL1
      rw [l2] at HL2
      clear l1 l2 hG hB hab htn ht6
      go_wp2_with (first | (refine HL1.out.mono ?_; rintro e w6 ⟨rfl, hw⟩; subst hw; clear HL1) | (refine HL2.out.mono ?_; rintro e w6 ⟨rfl, hw⟩; subst hw; clear HL2))
      go_ret
      exact ⟨by first | rfl | simp, HB.out⟩

theorem own : ownKnob Try.prog.godebug = none := by kernel_rfl
theorem laid : laidOutB Try.prog = true := by kernel_rfl
theorem one64 : Try.prog.cellsOf 3 = 1 := by kernel_rfl

set_option maxRecDepth 100000 in
theorem lifted (os : Os) (started : os.Started) (H : Type) (enc : TypeId × Value → H) :
    ReturnsInHanded {} Try.checked os 6 .any (Rows.gateOnceSpec.pre6 enc Try.prog Try.f6 Rows.gateOnceRow.domain false) (Rows.gateOnceSpec.post enc Try.prog Try.f6 false true false false) := by
  refine returnsInHanded_of_change (C := Try.checked) own started (by kernel_rfl) Try.func6
    (ChangeSpec.witness6 (enc := enc) (C := Try.checked) false ⟨#[], #[.int .i64 0, .agg #[.int .i64 0, .int .i64 0, .int .i64 0], .slice none 0 0], []⟩ 8 (by kernel_rfl) (by kernel_rfl) (by kernel_rfl) (by kernel_rfl)) ?_
  intro W base args ds gs before hval0 hW _ _
  have hval : ∀ (j : Nat) t v, Try.f6.params[j]? = some t → args[j]? = some v → Value.okWide Try.prog W .any base t v := hval0
  have hW' := hW
  obtain ⟨p, q, hA0, hV, rfl, hfz, hnd⟩ := hW
  have hA : DataW.TrodAll enc Try.prog W 0 (fun _ => true) true Try.f6.params.toList args.toList ds p := hA0
  rw [Try.params6] at hA hval
  obtain ⟨v0, v1, v2, d0, d1, d2, p0, p1, p2, rfl, rfl, rfl, h0, h1, h2⟩ := trodAll_three hA
  obtain ⟨a0, rfl, rfl, rfl, wf0⟩ := open_int Try.underlying3 (hval 0 3 v0 rfl rfl) h0
  have hb0 : -9223372036854775808 ≤ a0 ∧ a0 ≤ 9223372036854775807 := by simpa [Lit.wf, IntKind.min, IntKind.max, IntKind.signed, IntKind.bits] using wf0
  obtain ⟨y1, z1, u1, rfl, hy1, hz1, hu1⟩ := GateLaw.open_three Try.underlying36 (by kernel_rfl) Try.underlying3 one64 (hval 1 36 v1 rfl rfl) h1
  obtain ⟨A2, n2, c2, rfl, hnc2, hcm2, hr2⟩ := GateOps.open_bools (hval 2 43 v2 rfl rfl) h2
  refine (walk a0 y1 z1 u1 A2 n2 c2 W hb0.1 hb0.2 hy1 hnc2 hcm2 hr2).mono fun e W' ⟨he, hb⟩ => ?_
  subst he
  exact ⟨_, rfl, Law.post laid (by kernel_rfl) (by kernel_rfl) Try.underlying4 rfl hW' rfl hb⟩

theorem proved : Rows.GateOnceSaid :=
  OpenClaim.holds_of_wide 6 Try.f6 rfl rfl rfl rfl rfl rfl rfl ⟨rfl, rfl, rfl, rfl, rfl⟩ rfl rfl rfl rfl rfl (by kernel_rfl) Try.func6 (by kernel_rfl)
    (of_decide_eq_true (by kernel_rfl)) (by unfold Func.isWrapper; first | (rw [if_pos (by decide +kernel)]; kernel_rfl) | (rw [if_neg (by decide +kernel)]; exact ⟨rfl, rfl⟩))
    (fun os started H enc _ => lifted os started H enc)

end Go.Proofs.Ytldomhghkfbbkaa.gateOnce
