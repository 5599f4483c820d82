/-
  PageBuilds holds: Build tells what the document's own answer tells; for whatever slots came in. No condition.
-/
import Derived.Test.YteonjdigcecceaaPageKit
import Derived.Test.YteonjdigcecceaaPageOps
import Derived.OpenShut
import Derived.BigQuiet
import Derived.Test.YteonjdigcecceaaPageRefKit
namespace Go.Proofs.Yteonjdigcecceaa.pageBuilds
open Go.RowKit Go.ChangeShapes Go.WideShapes Page PagePkg PageLaw PageRef Lib
set_option maxRecDepth 4000

set_option maxHeartbeats 8000000 in
theorem walk (n : Int) (A : Option Addr) (m c : Nat) (ss : List Sl) (w : World) (_hn0 : -9223372036854775808 ≤ n) (_hn1 : n ≤ 9223372036854775807) (hnc : m ≤ c) (hcm : c ≤ maxLen) (hr : Slots w w.heap.size A m ss) :
    Calls Try.prog 3 #[.int .i64 n, .slice A m c] w fun e w' => e = .returned (.bool true) ∧ Below w.heap.size w w' := by
  have HA := Lib.hid (awake_any w)
  have HSL := Lib.hid (fun X (hX : Below w.heap.size w X) => slim_any A m c ss X (hr.below hX) ⟨hnc, hcm⟩)
  have HBU := Lib.hid (fun X (hX : Below w.heap.size w X) => Build_any n A m c ss X (hr.below hX))
  have HR := Lib.hid hr
  have HM := Lib.hid hr.len
  clear hr hnc hcm
  by_cases hs : Slim ss
  · simp only [decide_eq_true hs] at HSL
    have HSM := Lib.hid hs
    clear hs
    by_cases hg : fits n m ∧ ∀ p ∈ ss.map Sl.pc, p.Ok
    · obtain ⟨hf, hok⟩ := hg
      obtain ⟨N, rfl⟩ : ∃ N : Nat, n = (N : Int) := ⟨n.toNat, by unfold fits at hf; omega⟩
      have hm1 : 1 ≤ m := hf.1
      have hmN : m ≤ N := by have := hf.2.1; omega
      have hN4 : N ≤ 4 := by have := hf.2.2; omega
      have HF := Lib.hid (show fits (N : Int) (ss.map Sl.pc).length by rw [List.length_map, HM.out]; exact hf)
      have HOK := Lib.hid hok
      clear hf hok
      go_enter Try.func3, Try.ntmps3
      go_wp2_with fail
      refine HA.out.mono ?_
      rintro e w1 ⟨rfl, hb⟩
      have HB := Lib.hid hb
      clear hb HA
      go_wp2_with fail
      refine (HSL.out w1 HB.out).mono ?_
      rintro e w2 ⟨rfl, hw⟩
      subst w2
      clear HSL
      go_wp2_with fail
      refine (HBU.out w1 HB.out).mono ?_
      intro e w2 hbt
      obtain ⟨A1, c1, A2, c2, qs, rfl, h1, h2, hpg, htwo, hc1, hc2, hm1', hm2', hb⟩ := built_yes hbt HF.out HOK.out
      have HB2 := Lib.hid (below_on HB.out hb HB.out.size)
      have HD := Lib.hid h1
      have HO := Lib.hid h2
      have HPG := Lib.hid hpg
      have HTWO := Lib.hid htwo
      clear hbt h1 h2 hpg htwo hb HBU
      clear HPG HTWO
      have HRB := Lib.hid (rBuild_any (N : Int) A m c ss w2 (HR.out.below HB2.out) (fun x hx => Nat.le_trans (HSM.out.2 x hx) (by decide)))
      go_wp2_with fail
      refine HRB.out.mono ?_
      intro e w3 hbt
      obtain ⟨A3, c3, A4, c4, rfl, h1, h2, hb⟩ := rbuilt_yes hbt HF.out HOK.out
      have HE := Lib.hid h1
      have HG := Lib.hid h2
      have HD3 := Lib.hid (HD.out.below hb)
      have HO3 := Lib.hid (HO.out.below hb)
      replace HB2 := Lib.hid (below_on HB2.out hb HB2.out.size)
      clear hbt h1 h2 hb HRB HD HO
      have HS1 := Lib.hid (fun X (hX : Below w3.heap.size w3 X) => sameBytes_any A1 A3 N c1 c3 _ X (HD3.out.below hX) (HE.out.below hX) (by omega))
      have HS2 := Lib.hid (fun X (hX : Below w3.heap.size w3 X) => sameBytes_any A2 A4 N c2 c4 _ X (HO3.out.below hX) (HG.out.below hX) (by omega))
      clear HD3 HO3 HE HG
      go_wp2_with fail
      refine (HS1.out w3 (Below.refl _ _)).mono ?_
      rintro e w4 ⟨rfl, hb⟩
      have HX4 := Lib.hid hb
      have HB4 := Lib.hid (below_on HB2.out hb HB2.out.size)
      clear hb HS1
      go_wp2_with fail
      refine (HS2.out w4 HX4.out).mono ?_
      rintro e w5 ⟨rfl, hb⟩
      have HB5 := Lib.hid (below_on HB4.out hb HB4.out.size)
      clear hb HS2
      go_wp2
      go_ret
      exact ⟨rfl, HB5.out⟩
    · have HNO := Lib.hid (show ¬ (fits n (ss.map Sl.pc).length ∧ ∀ p ∈ ss.map Sl.pc, p.Ok) by rw [List.length_map, HM.out]; exact hg)
      clear hg
      go_enter Try.func3, Try.ntmps3
      go_wp2_with fail
      refine HA.out.mono ?_
      rintro e w1 ⟨rfl, hb⟩
      have HB := Lib.hid hb
      clear hb HA
      go_wp2_with fail
      refine (HSL.out w1 HB.out).mono ?_
      rintro e w2 ⟨rfl, hw⟩
      subst w2
      clear HSL
      go_wp2_with fail
      refine (HBU.out w1 HB.out).mono ?_
      intro e w2 hbt
      obtain ⟨rfl, hb⟩ := built_no hbt HNO.out
      have HB2 := Lib.hid (below_on HB.out hb HB.out.size)
      clear hbt hb HBU
      have HRB := Lib.hid (rBuild_any n A m c ss w2 (HR.out.below HB2.out) (fun x hx => Nat.le_trans (HSM.out.2 x hx) (by decide)))
      go_wp2_with fail
      refine HRB.out.mono ?_
      intro e w3 hbt
      obtain ⟨rfl, hb⟩ := rbuilt_no hbt HNO.out
      replace HB2 := Lib.hid (below_on HB2.out hb HB2.out.size)
      clear hbt hb HRB
      go_wp2_with fail
      refine (none_same _).mono ?_
      rintro e w4 ⟨rfl, hb⟩
      replace HB2 := Lib.hid (below_on HB2.out hb HB2.out.size)
      clear hb
      go_wp2_with fail
      refine (none_same _).mono ?_
      rintro e w5 ⟨rfl, hb⟩
      replace HB2 := Lib.hid (below_on HB2.out hb HB2.out.size)
      clear hb
      go_wp2
      go_ret
      exact ⟨rfl, HB2.out⟩
  · simp only [decide_eq_false hs] at HSL
    clear hs
    go_enter Try.func3, Try.ntmps3
    go_wp2_with fail
    refine HA.out.mono ?_
    rintro e w1 ⟨rfl, hb⟩
    have HB := Lib.hid hb
    clear hb HA
    go_wp2_with fail
    refine (HSL.out w1 HB.out).mono ?_
    rintro e w2 ⟨rfl, hw⟩
    subst w2
    clear HSL
    go_wp2
    go_ret
    exact ⟨rfl, HB.out⟩

theorem own : ownKnob Try.prog.godebug = none := by kernel_rfl
theorem laid : laidOutB Try.prog = true := by kernel_rfl

set_option maxRecDepth 100000 in
theorem lifted (os : Os) (started : os.Started) (H : Type) (enc : TypeId × Value → H) :
    ReturnsInHanded {} Try.checked os 3 .any (Rows.pageBuildsSpec.pre6 enc Try.prog Try.f3 Rows.pageBuildsRow.domain false) (Rows.pageBuildsSpec.post enc Try.prog Try.f3 false true false false) := by
  refine returnsInHanded_of_change (C := Try.checked) own started (by kernel_rfl) Try.func3
    (ChangeSpec.witness6 (enc := enc) (C := Try.checked) false ⟨#[], #[.int .i64 0, .slice none 0 0], []⟩ 8 (by kernel_rfl) (by kernel_rfl) (by kernel_rfl) (by kernel_rfl)) ?_
  intro W base args ds gs before hval0 hW _ _
  have hval : ∀ (j : Nat) t v, Try.f3.params[j]? = some t → args[j]? = some v → Value.okWide Try.prog W .any base t v := hval0
  have hW' := hW
  obtain ⟨p, q, hA0, hV, rfl, hfz, hnd⟩ := hW
  have hA : DataW.TrodAll enc Try.prog W 0 (fun _ => true) true Try.f3.params.toList args.toList ds p := hA0
  rw [Try.params3] at hA hval
  obtain ⟨v0, v1, d0, d1, p0, p1, rfl, rfl, rfl, h0, h1⟩ := trodAll_two hA
  obtain ⟨a0, rfl, rfl, rfl, wf0⟩ := open_int Try.underlying3 (hval 0 3 v0 rfl rfl) h0
  have hb0 : -9223372036854775808 ≤ a0 ∧ a0 ≤ 9223372036854775807 := by simpa [Lit.wf, IntKind.min, IntKind.max, IntKind.signed, IntKind.bits] using wf0
  obtain ⟨A1, n1, c1, l1, rfl, hnc1, hcm1, hr1⟩ := PageOps.open_slots (hval 1 22 v1 rfl rfl) h1
  refine (walk a0 A1 n1 c1 l1 W hb0.1 hb0.2 hnc1 hcm1 hr1).mono fun e W' ⟨he, hb⟩ => ?_
  subst he
  exact ⟨_, rfl, Law.post laid (by kernel_rfl) (by kernel_rfl) Try.underlying4 rfl hW' rfl hb⟩

theorem proved : Rows.PageBuildsSaid :=
  OpenClaim.holds_of_wide 3 Try.f3 rfl rfl rfl rfl rfl rfl rfl ⟨rfl, rfl, rfl, rfl, rfl⟩ rfl rfl rfl rfl rfl (by kernel_rfl) Try.func3 (by kernel_rfl)
    (of_decide_eq_true (by kernel_rfl)) (by unfold Func.isWrapper; first | (rw [if_pos (by decide +kernel)]; kernel_rfl) | (rw [if_neg (by decide +kernel)]; exact ⟨rfl, rfl⟩))
    (fun os started H enc _ => lifted os started H enc)

end Go.Proofs.Yteonjdigcecceaa.pageBuilds
