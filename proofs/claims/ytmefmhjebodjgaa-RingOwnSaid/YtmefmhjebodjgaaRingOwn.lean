/-
  RingOwn holds: what is done with a slot's bytes that were handed in, or got, changes nothing in the ring; for all bytes. No condition.
-/
import Derived.Test.YtmefmhjebodjgaaRingKit
import Derived.Test.YtmefmhjebodjgaaLawKit
import Derived.OpenShut
import Derived.RegionTactic
namespace Go.Proofs.Ytmefmhjebodjgaa.ringOwn
open Go.RowKit Go.ChangeShapes Go.WideShapes Ring RingPkg RingLaw
set_option maxRecDepth 4000
theorem xor_flip (x : UInt8) : bits .xor .u8 (x.toNat : Int) 255 = ((x ^^^ 255).toNat : Int) := by
  have h := u8_xor_nat x.toNat 255 x.toNat_lt (by omega)
  rw [show ((255 : Nat) : Int) = 255 from rfl] at h
  rw [h, UInt8.toNat_xor]
  rfl

/-- A slice of n bytes of the call's own, whatever they are. -/
def Some (w : World) (base : Nat) (v : Value) (n : Nat) : Prop := ∃ ys : List UInt8, ys.length = n ∧ Own w base 5 v ys

/-- A place of it can be read and written. -/
theorem Some.at_ {w : World} {base n c k : Nat} {A : Option Addr} (h : Some w base (.slice A n c) n) (hk : k < n) :
    ∃ g, A = some ⟨g, 0, none⟩ ∧ base ≤ g ∧ g < w.heap.size ∧ ∃ y : UInt8, w.cell? ⟨g, k, none⟩ = some (.int .u8 (y.toNat : Int)) ∧ w.frozen? ⟨g, k, none⟩ = false ∧
      Some (w.setCell ⟨g, k, none⟩ (.int .u8 (bits .xor .u8 (y.toNat : Int) 255))) base (.slice A n c) n := by
  obtain ⟨ys, hl, ho⟩ := h
  obtain ⟨g, cap, hv, hg, _, _⟩ := ho.form (by omega)
  injection hv with hv
  subst hv
  have hc := ho.cell (i := k) (by omega)
  refine ⟨g, rfl, hg, ho.lt g rfl, ys[k], hc.1, hc.2, ys.set k (ys[k] ^^^ 255), by simp [hl], ?_⟩
  rw [xor_flip]
  exact ho.set k _


theorem Rg.set {w : World} {P : Pl} {size : Int} {all : All} (h : Rg w P size all) (g k : Nat) (v : Value) (hg : ¬ P.own g) : Rg (w.setCell ⟨g, k, none⟩ v) P size all :=
  h.keep (by simp) (fun b hb => Below.heap_setCell _ _ _ _ (fun e => hg (by rw [← show b = g from e]; exact hb)))

set_option maxHeartbeats 4000000 in
theorem walk (A : Option Addr) (n c : Nat) (xs : List UInt8) (w : World) (hnc : n ≤ c) (hcm : c ≤ maxLen) (hr : Bytes w w.heap.size A n xs) :
    Calls Try.prog 8 #[.slice A n c] w fun e w' => e = .returned (.bool true) ∧ Below w.heap.size w w' := by
  have HR := Lib.hid hr
  have hn := Nat.le_trans hnc hcm
  unfold maxLen at hn hcm
  clear hr
  go_enter Try.func8, Try.ntmps8
  go_wp2_with fail
  refine (awake_any _).mono ?_
  rintro e w1 ⟨rfl, hb⟩
  have HB := Lib.hid hb
  clear hb
  go_wp2_with fail
  refine (New_rg 2 w1 (by omega) (by omega)).mono ?_
  rintro e w2 ⟨P, rfl, hg, hup, hb⟩
  have HG := Lib.hid hg
  have HUP : Hid (∀ b, P.own b → w.heap.size ≤ b) := Lib.hid (fun b hb => Nat.le_trans HB.out.size (hup b hb))
  have HLT := Lib.hid hg.lt
  replace HB := Lib.hid (below_on HB.out hb HB.out.size)
  clear hg hup hb
  obtain ⟨gd, hgd⟩ : ∃ gd, gd = P.g := ⟨_, rfl⟩
  rw [← hgd]
  have HGD := Lib.hid hgd.symm
  clear hgd
  by_cases hl : 5000 < n
  · go_wp2
    go_ret
    exact ⟨rfl, HB.out⟩
  have hlen : ([] : List UInt8).length + n ≤ 140737488355328 := by simp; omega
  have hxl : xs.length = n := HR.out.1
  have HX := Lib.hid hxl
  clear hxl
  have HRK := Lib.hid (bytes_keep HR.out (HB.out.alloc HB.out.size (.cells #[] 5)))
  go_wp2_with (at_builtin; refine wpList_append_bytes _ rfl _ _ _ rfl w2.heap.size 5 Try.underlying33 info8 _ [] rfl (own_new w2 5 [] _ rfl (Nat.zero_le _)) w.heap.size A n c xs rfl HRK.out hlen (by simp) ?_)
  intro v4 w4 ho4 hg4 _
  have hb4 : Below w2.heap.size w2 w4 := ((Below.refl w2.heap.size w2).alloc (Nat.le_refl _) _).grown hg4 (by simp) (fun k hk => by simp [Value.ownBlock] at hk; omega)
  obtain ⟨A4, c4, rfl, hr4⟩ := ho4.reads
  rw [HX.out] at hr4 ⊢
  have HO4 : Hid (Own w4 w2.heap.size 5 (.slice A4 n c4) xs) := Lib.hid (by rw [← HX.out]; exact ho4)
  replace HG := Lib.hid (HG.out.below hb4)
  replace HB := Lib.hid (below_on HB.out hb4 HB.out.size)
  have HLT4 : Hid (∀ b, P.own b → b < w2.heap.size) := HLT
  have HRR := Lib.hid hr4
  clear ho4 hg4 hb4 hr4 hlen HRK HLT
  have hP := Put_rg HG.out (by simp) (by omega) (by omega) (by decide) ⟨0, 0, 0, xs, 0⟩ A4 n c4 (by omega) HRR.out
  rw [HGD.out] at hP
  have HP := Lib.hid hP
  clear hP
  go_wp2_with fail
  refine HP.out.mono ?_
  rintro e w5 ⟨rfl, P2, hg2, hr2, ht⟩
  replace HG : Hid (Rg w5 P2 2 [(⟨0, 0, 0, xs, 0⟩, 0)]) := Lib.hid hr2
  replace HGD : Hid (P2.g = gd) := Lib.hid hg2
  have HNO : Hid (∀ b, (Value.slice A4 n c4).ownBlock = some b → ¬ P2.own b) := Lib.hid (fun b hb ho => by
    have h1 := HO4.out.lt b hb
    have h2 := HO4.out.block b hb
    rcases ht.own b ho with h3 | h3
    · have := HLT4.out b h3
      omega
    · omega)
  have HS : Hid (Some w5 w2.heap.size (.slice A4 n c4) n) := Lib.hid ⟨xs, HX.out, HO4.out.keep fun b hb => ht.block b (HO4.out.lt b hb) (fun ho => by have h1 := HO4.out.block b hb; have h2 := HLT4.out b ho; omega)⟩
  have HW2 : Hid (w.heap.size ≤ w2.heap.size) := Lib.hid (Nat.le_of_lt (Nat.lt_of_le_of_lt (HUP.out P.g (.inl rfl)) (HLT4.out P.g (.inl rfl))))
  have hB0 := HB.out.size
  replace HB := Lib.hid (below_turn HB.out ht HUP.out hB0)
  replace HUP := Lib.hid (ht.up HUP.out hB0)
  clear hg2 hr2 ht HP HO4 HRR hB0
  go_wp2
  go_loopw [7] (fun i wr => ∃ k : Nat, k ≤ n ∧ i = .int .i64 k ∧ Some wr w2.heap.size (.slice A4 n c4) n ∧ Rg wr P2 2 [(⟨0, 0, 0, xs, 0⟩, 0)] ∧ Below w.heap.size w wr) (fun i _ => n - (intOf i).toNat)
  case atStart => exact ⟨0, by omega, rfl, HS.out, HG.out, HB.out⟩
  case round =>
    obtain ⟨k, hk, rfl, hs, hg, hb⟩ := hrel
    replace HS := Lib.hid hs
    replace HG := Lib.hid hg
    replace HB := Lib.hid hb
    clear hs hg hb
    by_cases hlt : k < n
    · obtain ⟨g4, hA, hg3, hg4, y, hc, hf, hs2⟩ := HS.out.at_ hlt
      have hno := HNO.out g4 (by rw [hA]; rfl)
      replace HS := Lib.hid hs2
      have HA := Lib.hid hA
      clear hs2 hA
      rw [HA.out]
      go_wp2
      go_roundw
      case rel => exact ⟨k + 1, by omega, by go_num, by have h := HS.out; rw [HA.out] at h; exact h, Rg.set HG.out g4 k _ hno, HB.out.setCell (p := ⟨g4, k, none⟩) (Nat.le_trans HW2.out hg3) _⟩
      case measure => simp [intOf]; omega
    · have hG := Get_rg HG.out (by simp) 0 (⟨0, 0, 0, xs, 0⟩, 0) (Nat.zero_le _) rfl
      rw [HGD.out] at hG
      have HGT := Lib.hid hG
      have HLT := Lib.hid HG.out.lt
      clear hG HS HNO
      go_wp2_with fail
      refine HGT.out.mono ?_
      rintro e w9 ⟨v9, rfl, ho9, hb9⟩
      obtain ⟨A9, c9, rfl, hr9⟩ := ho9.reads
      simp only at ho9 hr9 ⊢
      rw [HX.out] at hr9 ⊢
      have HO9 : Hid (Some w9 wr.heap.size (.slice A9 n c9) n) := Lib.hid ⟨xs, HX.out, by rw [← HX.out]; exact ho9⟩
      replace HG := Lib.hid (HG.out.below hb9)
      have HWR : Hid (w.heap.size ≤ wr.heap.size) := Lib.hid HB.out.size
      replace HB := Lib.hid (below_on HB.out hb9 HB.out.size)
      have hbx := (Below.refl w9.heap.size w9).alloc (Nat.le_refl _) (.cells #[.int .i64 0, .int .i64 0, .int .i64 0, .slice A9 n c9, .int .i64 0] 35)
      have HFV := Lib.hid (Five.new w9 35 (.int .i64 0) (.int .i64 0) (.int .i64 0) (.slice A9 n c9) (.int .i64 0))
      have hs1 := run_str (P := Try.prog) (w9.alloc (.cells #[.int .i64 0, .int .i64 0, .int .i64 0, .slice A9 n c9, .int .i64 0] 35)) 33 9 5 Try.underlying33 Try.underlying5 Try.underlying9 (c := c9) (bytes_keep hr9 hbx)
      have hs2 := run_str (P := Try.prog) (w9.alloc (.cells #[.int .i64 0, .int .i64 0, .int .i64 0, .slice A9 n c9, .int .i64 0] 35)) 33 9 5 Try.underlying33 Try.underlying5 Try.underlying9 (c := c) (bytes_keep HR.out (below_on HB.out hbx HB.out.size))
      have hq := str_eq (rfl : xs = xs)
      clear ho9 hb9 hr9 HGT
      go_upto_region 14 with fail
      refine at_wld ?_
      intro X hX
      replace HFV : Hid (Five X w9.heap.size 35 (.int .i64 0) (.int .i64 0) (.int .i64 0) (.slice A9 n c9) (.int .i64 0)) := by rw [hX]; exact HFV
      replace HG : Hid (Rg X P2 2 [(⟨0, 0, 0, xs, 0⟩, 0)]) := by rw [hX]; exact Lib.hid (HG.out.below hbx)
      replace HB : Hid (Below w.heap.size w X) := by rw [hX]; exact Lib.hid (below_on HB.out hbx HB.out.size)
      have HLT9 : Hid (∀ b, (Value.slice A9 n c9).ownBlock = some b → b < w9.heap.size ∧ ¬ P2.own b) := Lib.hid (fun b hb => by
        obtain ⟨ys, _, ho⟩ := HO9.out
        exact ⟨ho.lt b hb, fun h => by have h1 := HLT.out b h; have h2 := ho.block b hb; omega⟩)
      replace HO9 : Hid (Some X wr.heap.size (.slice A9 n c9) n) := by
        rw [hX]
        obtain ⟨ys, e, ho⟩ := HO9.out
        exact Lib.hid ⟨ys, e, ho.alloc _⟩
      clear hX hs1 hs2 hq hbx
      go_wp2
      go_loopw [10] (fun i wx => ∃ k : Nat, k ≤ n ∧ i = .int .i64 k ∧ Some wx wr.heap.size (.slice A9 n c9) n ∧ Five wx w9.heap.size 35 (.int .i64 0) (.int .i64 0) (.int .i64 0) (.slice A9 n c9) (.int .i64 0) ∧ Rg wx P2 2 [(⟨0, 0, 0, xs, 0⟩, 0)] ∧ Below w.heap.size w wx) (fun i _ => n - (intOf i).toNat)
      case atStart => exact ⟨0, by omega, rfl, HO9.out, HFV.out, HG.out, HB.out⟩
      case round =>
        rename World => wx
        obtain ⟨q, hq, rfl, hs, hf5, hg, hb⟩ := hrel
        replace HO9 := Lib.hid hs
        replace HFV := Lib.hid hf5
        replace HG := Lib.hid hg
        replace HB := Lib.hid hb
        clear hs hf5 hg hb
        obtain ⟨_, _, _, b3, _⟩ := HFV.out.cells
        by_cases hqn : q < n
        · obtain ⟨g4, hA, hg3, hg4, y, hc, hf, hs2⟩ := HO9.out.at_ hqn
          obtain ⟨hno1, hno2⟩ := HLT9.out g4 (by rw [hA]; rfl)
          replace HO9 := Lib.hid hs2
          have HA := Lib.hid hA
          clear hs2 hA
          rw [HA.out] at b3
          have hxb := y.toNat_lt
          have hqi : (q : Int) < (n : Int) := by omega
          clear hxb
          go_wp2
          go_region
          all_goals
            go_wp2
            go_roundw
            case rel => exact ⟨q + 1, by omega, by go_num, HO9.out, HFV.out.keep (Below.heap_setCell _ _ _ _ (fun e => by have := hno1; simp at e; omega)), (Rg.set HG.out g4 q _ hno2).below (Below.refl _ _).drew, (HB.out.setCell (p := ⟨g4, q, none⟩) (Nat.le_trans HWR.out hg3) _).drew⟩
            case measure => simp [intOf]; omega
        · have hG := Get_rg HG.out (by simp) 0 (⟨0, 0, 0, xs, 0⟩, 0) (Nat.zero_le _) rfl
          rw [HGD.out] at hG
          have HGT := Lib.hid hG
          clear hG HO9
          go_wp2_with fail
          refine HGT.out.mono ?_
          rintro e w11 ⟨v11, rfl, ho, hb⟩
          obtain ⟨A11, c11, rfl, hr11⟩ := ho.reads
          simp only at hr11 ⊢
          rw [HX.out] at hr11 ⊢
          replace HB := Lib.hid (below_on HB.out hb HB.out.size)
          have hbx := (Below.refl w11.heap.size w11).alloc (Nat.le_refl _) (.cells #[.int .i64 0, .int .i64 0, .int .i64 0, .slice A11 n c11, .int .i64 0] 35)
          have hs1 := run_str (P := Try.prog) (w11.alloc (.cells #[.int .i64 0, .int .i64 0, .int .i64 0, .slice A11 n c11, .int .i64 0] 35)) 33 9 5 Try.underlying33 Try.underlying5 Try.underlying9 (c := c11) (bytes_keep hr11 hbx)
          have hs2 := run_str (P := Try.prog) (w11.alloc (.cells #[.int .i64 0, .int .i64 0, .int .i64 0, .slice A11 n c11, .int .i64 0] 35)) 33 9 5 Try.underlying33 Try.underlying5 Try.underlying9 (c := c) (bytes_keep HR.out (below_on HB.out hbx HB.out.size))
          have hq2 := str_eq (rfl : xs = xs)
          replace HB := Lib.hid (below_on HB.out hbx HB.out.size)
          clear ho hb hr11 HGT hbx b3
          go_wp2
          go_ret
          exact ⟨by first | rfl | simp, HB.out⟩

theorem own : ownKnob Try.prog.godebug = none := by kernel_rfl
theorem laid : laidOutB Try.prog = true := by kernel_rfl
theorem one8 : Try.prog.cellsOf 5 = 1 := by kernel_rfl

set_option maxRecDepth 100000 in
theorem lifted (os : Os) (started : os.Started) (H : Type) (enc : TypeId × Value → H) :
    ReturnsInHanded {} Try.checked os 8 .any (Rows.ringOwnSpec.pre6 enc Try.prog Try.f8 Rows.ringOwnRow.domain false) (Rows.ringOwnSpec.post enc Try.prog Try.f8 false true false false) := by
  refine returnsInHanded_of_change (C := Try.checked) own started (by kernel_rfl) Try.func8
    (ChangeSpec.witness6 (enc := enc) (C := Try.checked) false ⟨#[], #[.slice none 0 0], []⟩ 8 (by kernel_rfl) (by kernel_rfl) (by kernel_rfl) (by kernel_rfl)) ?_
  intro W base args ds gs before hval0 hW _ _
  have hval : ∀ (j : Nat) t v, Try.f8.params[j]? = some t → args[j]? = some v → Value.okWide Try.prog W .any base t v := hval0
  have hW' := hW
  obtain ⟨p, q, hA0, hV, rfl, hfz, hnd⟩ := hW
  have hA : DataW.TrodAll enc Try.prog W 0 (fun _ => true) true Try.f8.params.toList args.toList ds p := hA0
  rw [Try.params8] at hA hval
  obtain ⟨v0, d0, rfl, rfl, h0⟩ := trodAll_one hA
  obtain ⟨A0, n0, c0, xs0, rfl, hnc0, hcm0, hr0⟩ := open_bytes Try.underlying33 Try.underlying5 one8 (hval 0 33 v0 rfl rfl) h0
  refine (walk A0 n0 c0 xs0 W hnc0 hcm0 hr0).mono fun e W' ⟨he, hb⟩ => ?_
  subst he
  exact ⟨_, rfl, Law.post laid (by kernel_rfl) (by kernel_rfl) Try.underlying4 rfl hW' rfl hb⟩

theorem proved : Rows.RingOwnSaid :=
  OpenClaim.holds_of_wide 8 Try.f8 rfl rfl rfl rfl rfl rfl rfl ⟨rfl, rfl, rfl, rfl, rfl⟩ rfl rfl rfl rfl rfl (by kernel_rfl) Try.func8 (by kernel_rfl)
    (of_decide_eq_true (by kernel_rfl)) (by unfold Func.isWrapper; first | (rw [if_pos (by decide +kernel)]; kernel_rfl) | (rw [if_neg (by decide +kernel)]; exact ⟨rfl, rfl⟩))
    (fun os started H enc _ => lifted os started H enc)

end Go.Proofs.Ytmefmhjebodjgaa.ringOwn
