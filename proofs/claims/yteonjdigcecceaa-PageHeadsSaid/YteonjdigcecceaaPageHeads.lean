/-
  PageHeads holds: Head tells what the document's own answer tells; for whatever mark came in. No condition.
-/
import Derived.Test.YteonjdigcecceaaPageKit
import Derived.Test.YteonjdigcecceaaPageOps
import Derived.OpenShut
import Derived.Test.YteonjdigcecceaaStructs
import Derived.BigQuiet
import Derived.Test.YteonjdigcecceaaPageRefKit
namespace Go.Proofs.Yteonjdigcecceaa.pageHeads
open Go.RowKit Go.ChangeShapes Go.WideShapes Page PagePkg PageLaw PageRef Lib
set_option maxRecDepth 4000

set_option maxHeartbeats 8000000 in
theorem walk (n l r s : Int) (w : World) (_hn0 : -9223372036854775808 ≤ n) (_hn1 : n ≤ 9223372036854775807) :
    Calls Try.prog 4 #[.int .i64 n, .agg #[.int .i64 l, .int .i64 r, .int .i64 s]] w fun e w' => e = .returned (.bool true) ∧ Below w.heap.size w w' := by
  obtain ⟨W0, hW0⟩ : ∃ W0, W0 = w.alloc (.cells #[.int .i64 l, .int .i64 r, .int .i64 s] 33) := ⟨_, rfl⟩
  have HB0 := Lib.hid (show Below w.heap.size w W0 by rw [hW0]; exact (Below.refl _ _).alloc (Nat.le_refl _) _)
  have HX0 := Lib.hid (show OobPkg.Three 33 W0 w.heap.size l r s by rw [hW0]; exact OobPkg.Three.new _ w l r s)
  have HW0 := Lib.hid hW0
  clear hW0
  have HA := Lib.hid (awake_any W0)
  have HHD := Lib.hid (fun w => Head_any n l r s w)
  have HRD := Lib.hid (fun w => rHead_any n l r s w)
  generalize heads l r s = ps at *
  by_cases hg : fits n ps.length ∧ ∀ p ∈ ps, p.Ok
  · obtain ⟨hf, hok⟩ := hg
    obtain ⟨N, rfl⟩ : ∃ N : Nat, n = (N : Int) := ⟨n.toNat, by unfold fits at hf; omega⟩
    have hN4 : N ≤ 4 := by have := hf.2.2; omega
    have HF := Lib.hid hf
    have HOK := Lib.hid hok
    clear hf hok
    go_enter Try.func4, Try.ntmps4
    go_wp2_with fail
    rw [← HW0.out]
    refine HA.out.mono ?_
    rintro e w1 ⟨rfl, hb⟩
    have HB := Lib.hid (below_on HB0.out hb HB0.out.size)
    have HX1 := Lib.hid (HX0.out.keep hb)
    obtain ⟨c0, c1', c2', _, _, _⟩ := three_cells HX1.out
    clear hb HA
    go_wp2_with fail
    refine (HHD.out w1).mono ?_
    intro e w2 hbt
    obtain ⟨A1, c1, A2, c2, qs, rfl, h1, h2, _, _, _, _, _, _, hb⟩ := built_yes hbt HF.out HOK.out
    have HB2 := Lib.hid (below_on HB.out hb HB.out.size)
    have HD := Lib.hid h1
    have HO := Lib.hid h2
    have HX2 := Lib.hid (HX1.out.keep hb)
    obtain ⟨d0, d1, d2, _, _, _⟩ := three_cells HX2.out
    clear hbt h1 h2 hb HHD c0 c1' c2'
    go_wp2_with fail
    refine (HRD.out w2).mono ?_
    intro e w3 hbt
    obtain ⟨A3, c3, A4, c4, rfl, h1, h2, hb⟩ := rbuilt_yes hbt HF.out HOK.out
    have HE := Lib.hid h1
    have HG := Lib.hid h2
    have HD3 := Lib.hid (HD.out.below hb)
    have HO3 := Lib.hid (HO.out.below hb)
    replace HB2 := Lib.hid (below_on HB2.out hb HB2.out.size)
    clear hbt h1 h2 hb HRD HD HO d0 d1 d2
    have HS1 := Lib.hid (fun X (hX : Below w3.heap.size w3 X) => sameBytes_any A1 A3 N c1 c3 _ X (HD3.out.below hX) (HE.out.below hX) (by omega))
    have HS2 := Lib.hid (fun X (hX : Below w3.heap.size w3 X) => sameBytes_any A2 A4 N c2 c4 _ X (HO3.out.below hX) (HG.out.below hX) (by omega))
    clear HD3 HO3 HE HG
    go_wp2_with fail
    refine (HS1.out w3 (Below.refl _ _)).mono ?_
    rintro e w4 ⟨rfl, hb⟩
    have HX4 := Lib.hid hb
    have HB4 := Lib.hid (below_on HB2.out hb HB2.out.size)
    clear hb HS1
    go_wp2_with fail
    refine (HS2.out w4 HX4.out).mono ?_
    rintro e w5 ⟨rfl, hb⟩
    have HB5 := Lib.hid (below_on HB4.out hb HB4.out.size)
    clear hb HS2
    go_wp2
    go_ret
    exact ⟨rfl, HB5.out⟩
  · have HNO := Lib.hid hg
    clear hg
    go_enter Try.func4, Try.ntmps4
    go_wp2_with fail
    rw [← HW0.out]
    refine HA.out.mono ?_
    rintro e w1 ⟨rfl, hb⟩
    have HB := Lib.hid (below_on HB0.out hb HB0.out.size)
    have HX1 := Lib.hid (HX0.out.keep hb)
    obtain ⟨c0, c1', c2', _, _, _⟩ := three_cells HX1.out
    clear hb HA
    go_wp2_with fail
    refine (HHD.out w1).mono ?_
    intro e w2 hbt
    obtain ⟨rfl, hb⟩ := built_no hbt HNO.out
    have HB2 := Lib.hid (below_on HB.out hb HB.out.size)
    have HX2 := Lib.hid (HX1.out.keep hb)
    obtain ⟨d0, d1, d2, _, _, _⟩ := three_cells HX2.out
    clear hbt hb HHD c0 c1' c2'
    go_wp2_with fail
    refine (HRD.out w2).mono ?_
    intro e w3 hbt
    obtain ⟨rfl, hb⟩ := rbuilt_no hbt HNO.out
    replace HB2 := Lib.hid (below_on HB2.out hb HB2.out.size)
    clear hbt hb HRD d0 d1 d2
    go_wp2_with fail
    refine (none_same _).mono ?_
    rintro e w4 ⟨rfl, hb⟩
    replace HB2 := Lib.hid (below_on HB2.out hb HB2.out.size)
    clear hb
    go_wp2_with fail
    refine (none_same _).mono ?_
    rintro e w5 ⟨rfl, hb⟩
    replace HB2 := Lib.hid (below_on HB2.out hb HB2.out.size)
    clear hb
    go_wp2
    go_ret
    exact ⟨rfl, HB2.out⟩

theorem own : ownKnob Try.prog.godebug = none := by kernel_rfl
theorem laid : laidOutB Try.prog = true := by kernel_rfl

set_option maxRecDepth 100000 in
theorem lifted (os : Os) (started : os.Started) (H : Type) (enc : TypeId × Value → H) :
    ReturnsInHanded {} Try.checked os 4 .any (Rows.pageHeadsSpec.pre6 enc Try.prog Try.f4 Rows.pageHeadsRow.domain false) (Rows.pageHeadsSpec.post enc Try.prog Try.f4 false true false false) := by
  refine returnsInHanded_of_change (C := Try.checked) own started (by kernel_rfl) Try.func4
    (ChangeSpec.witness6 (enc := enc) (C := Try.checked) false ⟨#[], #[.int .i64 0, .agg #[.int .i64 0, .int .i64 0, .int .i64 0]], []⟩ 8 (by kernel_rfl) (by kernel_rfl) (by kernel_rfl) (by kernel_rfl)) ?_
  intro W base args ds gs before hval0 hW _ _
  have hval : ∀ (j : Nat) t v, Try.f4.params[j]? = some t → args[j]? = some v → Value.okWide Try.prog W .any base t v := hval0
  have hW' := hW
  obtain ⟨p, q, hA0, hV, rfl, hfz, hnd⟩ := hW
  have hA : DataW.TrodAll enc Try.prog W 0 (fun _ => true) true Try.f4.params.toList args.toList ds p := hA0
  rw [Try.params4] at hA hval
  obtain ⟨v0, v1, d0, d1, p0, p1, rfl, rfl, rfl, h0, h1⟩ := trodAll_two hA
  obtain ⟨a0, rfl, rfl, rfl, wf0⟩ := open_int Try.underlying3 (hval 0 3 v0 rfl rfl) h0
  have hb0 : -9223372036854775808 ≤ a0 ∧ a0 ≤ 9223372036854775807 := by simpa [Lit.wf, IntKind.min, IntKind.max, IntKind.signed, IntKind.bits] using wf0
  obtain ⟨k1, l1, s1, rfl⟩ := open_oob Try.underlying33 rfl (by kernel_rfl) (by kernel_rfl) (hval 1 33 v1 rfl rfl) h1
  refine (walk a0 k1 l1 s1 W hb0.1 hb0.2).mono fun e W' ⟨he, hb⟩ => ?_
  subst he
  exact ⟨_, rfl, Law.post laid (by kernel_rfl) (by kernel_rfl) Try.underlying4 rfl hW' rfl hb⟩

theorem proved : Rows.PageHeadsSaid :=
  OpenClaim.holds_of_wide 4 Try.f4 rfl rfl rfl rfl rfl rfl rfl ⟨rfl, rfl, rfl, rfl, rfl⟩ rfl rfl rfl rfl rfl (by kernel_rfl) Try.func4 (by kernel_rfl)
    (of_decide_eq_true (by kernel_rfl)) (by unfold Func.isWrapper; first | (rw [if_pos (by decide +kernel)]; kernel_rfl) | (rw [if_neg (by decide +kernel)]; exact ⟨rfl, rfl⟩))
    (fun os started H enc _ => lifted os started H enc)

end Go.Proofs.Yteonjdigcecceaa.pageHeads
