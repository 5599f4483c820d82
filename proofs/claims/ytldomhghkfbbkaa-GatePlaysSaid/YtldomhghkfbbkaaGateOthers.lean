/-
  GateOthers holds: other kinds have no tokens, and taking them takes none. No condition.
-/
import Derived.Test.YtldomhghkfbbkaaGateKit
namespace Go.Proofs.Ytldomhghkfbbkaa.gateOthers
open Go.RowKit Go.ChangeShapes Go.WideShapes Gate GatePkg GateRef GateLaw Lib
set_option maxRecDepth 4000

theorem shares (free low high : Int) (M : Nat) : (fst free low high M).toNat + (snd free low high M).toNat ≤ M := by
  rcases hok : ok low high M with _ | _
  · obtain ⟨e1, e2⟩ := bad (free := free) hok
    omega
  · have := bounds hok (free := free)
    have := all hok (free := free)
    omega

set_option maxHeartbeats 4000000 in
theorem walk (y z u k : Int) (w : World) (_hy : B64 y) (_h0 : -9223372036854775808 ≤ k) (_h1 : k ≤ 9223372036854775807) :
    Calls Try.prog 7 #[.agg #[.int .i64 y, .int .i64 z, .int .i64 u], .int .i64 k] w fun e w' => e = .returned (.bool true) ∧ Below w.heap.size w w' := by
  have HA := Lib.hid (fun W => awake_any W)
  have HN := Lib.hid (fun W => New_ok 20 (by omega) (by omega) W)
  have HSH := Lib.hid (shares y z u 20)
  have HB1 := Lib.hid ((Below.refl _ w).alloc (Nat.le_refl _) (.cells #[.int .i64 y, .int .i64 z, .int .i64 u] 36))
  have hc := heap_alloc_new w (.cells #[.int .i64 y, .int .i64 z, .int .i64 u] 36)
  have hs : (w.alloc (.cells #[.int .i64 y, .int .i64 z, .int .i64 u] 36)).heap.size = w.heap.size + 1 := by simp
  clear _hy
  go_enter Try.func7, Try.ntmps7
  go_wp2_with fail
  refine (HA.out _).mono ?_
  rintro e w1 ⟨rfl, hw⟩
  rw [← hw] at HB1 hc hs
  clear hw HA
  go_wp2_with fail
  refine (HN.out _).mono ?_
  rintro e w2 ⟨v, rfl, g, c, d, rfl, hg, hcc, hd, hG, hb2⟩
  clear HN
  have hx2 : w2.heap[w.heap.size]? = some (.cells #[.int .i64 y, .int .i64 z, .int .i64 u] 36 (0, 0)) := (hb2.block _ (by omega)).trans hc
  have HB2 := Lib.hid (show Below w.heap.size w w2 from HB1.out.trans (hb2.mono (by omega)))
  have HF := Lib.hid (Fill_any hG y z u)
  have HLE := Lib.hid (show w.heap.size < g ∧ w.heap.size < c ∧ w.heap.size < d by omega)
  have e0 : w2.cell? ⟨w.heap.size, 0, none⟩ = some (.int .i64 y) := by simp [World.cell?, hx2]
  have e1 : w2.cell? ⟨w.heap.size, 1, none⟩ = some (.int .i64 z) := by simp [World.cell?, hx2]
  have e2 : w2.cell? ⟨w.heap.size, 2, none⟩ = some (.int .i64 u) := by simp [World.cell?, hx2]
  clear hx2 hb2 hc hs hG hg hcc hd HB1
  generalize (fst y z u (20 : Nat)).toNat = a at *
  generalize (snd y z u (20 : Nat)).toNat = b at *
  go_wp2_with fail
  refine HF.out.mono ?_
  rintro e w3 ⟨rfl, hG, hK⟩
  have HB3 := Lib.hid (hK.below _ _ HB2.out (by have := HLE.out; omega) (by have := HLE.out; omega))
  clear hK HF HB2 e0 e1 e2
  have HL1 := Lib.hid (Left_any hG 1)
  have HL2 := Lib.hid (Left_any hG 2)
  have HT := Lib.hid (Take_any hG k)
  have l1 : left a b 1 = a := by simp [left]
  have l2 : left a b 2 = b := by simp [left]
  rw [l1] at HL1
  rw [l2] at HL2
  by_cases hk : k = 1 ∨ k = 2
  · have hsum : IntKind.i64.wrap ((a : Int) + b) = (a : Int) + b := by have := HSH.out; rw [IntKind.wrap_i64]; omega
    have hle : decide ((a : Int) + b ≤ 20) = true := by have := HSH.out; simp; omega
    rcases hk with rfl | rfl
    · clear HT l1 l2 hG _h0 _h1
      go_wp2_with (first | (refine HL1.out.mono ?_; rintro e w4 ⟨rfl, hw⟩; subst hw; clear HL1) | (refine HL2.out.mono ?_; rintro e w4 ⟨rfl, hw⟩; subst hw; clear HL2))
      go_ret
      exact ⟨rfl, HB3.out⟩
    · clear HT l1 l2 hG
      go_wp2_with (first | (refine HL1.out.mono ?_; rintro e w4 ⟨rfl, hw⟩; subst hw; clear HL1) | (refine HL2.out.mono ?_; rintro e w4 ⟨rfl, hw⟩; subst hw; clear HL2))
      go_ret
      exact ⟨rfl, HB3.out⟩
  · have k1 : ¬ k = 1 := fun e => hk (.inl e)
    have k2 : ¬ k = 2 := fun e => hk (.inr e)
    have lk : left a b k = 0 := by simp [left, k1, k2]
    have t1 : take1 a k = a := by simp [take1, k1]
    have t2 : take2 b k = b := by simp [take2, k2]
    have hz : decide (0 < 0) = false := rfl
    rw [lk, t1, t2, hz] at HT
    have kb1 : (k == 1) = false := by simpa using k1
    have kb2 : (k == 2) = false := by simpa using k2
    have HLS := Lib.hid (And.intro lk (And.intro l1 l2))
    clear hk l1 l2 lk t1 t2 hz k1 k2 hG _h0 _h1
    go_wp2_with (first | (refine HL1.out.mono ?_; rintro e w4 ⟨rfl, hw⟩; subst hw; clear HL1) | (refine HL2.out.mono ?_; rintro e w4 ⟨rfl, hw⟩; subst hw; clear HL2) | fail)
    refine HT.out.mono ?_
    rintro e w5 ⟨rfl, hG5, hK⟩
    have HB5 := Lib.hid (hK.below _ _ HB3.out (by have := HLE.out; omega) (by have := HLE.out; omega))
    clear hK HB3 HT
    have HL0 := Lib.hid (Left_any hG5 k)
    have HL1 := Lib.hid (Left_any hG5 1)
    have HL2 := Lib.hid (Left_any hG5 2)
    rw [HLS.out.1] at HL0
    rw [HLS.out.2.1] at HL1
    rw [HLS.out.2.2] at HL2
    clear HLS hG5
    go_wp2_with (first | (refine HL0.out.mono ?_; rintro e w6 ⟨rfl, hw⟩; subst hw; clear HL0) | (refine HL1.out.mono ?_; rintro e w6 ⟨rfl, hw⟩; subst hw; clear HL1) | (refine HL2.out.mono ?_; rintro e w6 ⟨rfl, hw⟩; subst hw; clear HL2) | fail)
    go_ret
    exact ⟨by first | rfl | simp, HB5.out⟩

theorem own : ownKnob Try.prog.godebug = none := by kernel_rfl
theorem laid : laidOutB Try.prog = true := by kernel_rfl
theorem one64 : Try.prog.cellsOf 3 = 1 := by kernel_rfl

set_option maxRecDepth 100000 in
theorem lifted (os : Os) (started : os.Started) (H : Type) (enc : TypeId × Value → H) :
    ReturnsInHanded {} Try.checked os 7 .any (Rows.gateOthersSpec.pre6 enc Try.prog Try.f7 Rows.gateOthersRow.domain false) (Rows.gateOthersSpec.post enc Try.prog Try.f7 false true false false) := by
  refine returnsInHanded_of_change (C := Try.checked) own started (by kernel_rfl) Try.func7
    (ChangeSpec.witness6 (enc := enc) (C := Try.checked) false ⟨#[], #[.agg #[.int .i64 0, .int .i64 0, .int .i64 0], .int .i64 0], []⟩ 8 (by kernel_rfl) (by kernel_rfl) (by kernel_rfl) (by kernel_rfl)) ?_
  intro W base args ds gs before hval0 hW _ _
  have hval : ∀ (j : Nat) t v, Try.f7.params[j]? = some t → args[j]? = some v → Value.okWide Try.prog W .any base t v := hval0
  have hW' := hW
  obtain ⟨p, q, hA0, hV, rfl, hfz, hnd⟩ := hW
  have hA : DataW.TrodAll enc Try.prog W 0 (fun _ => true) true Try.f7.params.toList args.toList ds p := hA0
  rw [Try.params7] at hA hval
  obtain ⟨v0, v1, d0, d1, p0, p1, rfl, rfl, rfl, h0, h1⟩ := trodAll_two hA
  obtain ⟨y0, z0, u0, rfl, hy0, hz0, hu0⟩ := GateLaw.open_three Try.underlying36 (by kernel_rfl) Try.underlying3 one64 (hval 0 36 v0 rfl rfl) h0
  obtain ⟨a1, rfl, rfl, rfl, wf1⟩ := open_int Try.underlying3 (hval 1 3 v1 rfl rfl) h1
  have hb1 : -9223372036854775808 ≤ a1 ∧ a1 ≤ 9223372036854775807 := by simpa [Lit.wf, IntKind.min, IntKind.max, IntKind.signed, IntKind.bits] using wf1
  refine (walk y0 z0 u0 a1 W hy0 hb1.1 hb1.2).mono fun e W' ⟨he, hb⟩ => ?_
  subst he
  exact ⟨_, rfl, Law.post laid (by kernel_rfl) (by kernel_rfl) Try.underlying4 rfl hW' rfl hb⟩

theorem proved : Rows.GateOthersSaid :=
  OpenClaim.holds_of_wide 7 Try.f7 rfl rfl rfl rfl rfl rfl rfl ⟨rfl, rfl, rfl, rfl, rfl⟩ rfl rfl rfl rfl rfl (by kernel_rfl) Try.func7 (by kernel_rfl)
    (of_decide_eq_true (by kernel_rfl)) (by unfold Func.isWrapper; first | (rw [if_pos (by decide +kernel)]; kernel_rfl) | (rw [if_neg (by decide +kernel)]; exact ⟨rfl, rfl⟩))
    (fun os started H enc _ => lifted os started H enc)

end Go.Proofs.Ytldomhghkfbbkaa.gateOthers
