/-
  RingNews holds: which rings there are; for every size. No condition.
-/
import Derived.Test.YtmefmhjebodjgaaRingKit
import Derived.Test.YtmefmhjebodjgaaLawKit
import Derived.OpenShut
import Derived.Test.YtmefmhjebodjgaaRingRefA
namespace Go.Proofs.Ytmefmhjebodjgaa.ringNews
open Go.RowKit Go.ChangeShapes Go.WideShapes Ring RingPkg RingLaw
set_option maxRecDepth 4000

set_option maxHeartbeats 2000000 in
theorem walk (size : Int) (w : World) (_hz0 : -9223372036854775808 ≤ size) (_hz1 : size ≤ 9223372036854775807) :
    Calls Try.prog 3 #[.int .i64 size] w fun e w' => e = .returned (.bool true) ∧ Below w.heap.size w w' := by
  clear _hz0 _hz1
  by_cases hin : 1 ≤ size ∧ size ≤ 256
  rotate_left
  · have H1 := Lib.hid (fun w => New_out size w hin)
    have H2 := Lib.hid (fun w => RingRef.New_out size w hin)
    clear hin
    go_enter Try.func3, Try.ntmps3
    go_wp2_with fail
    refine (awake_any _).mono ?_
    rintro e w1 ⟨rfl, hb⟩
    have HB := Lib.hid hb
    clear hb
    go_wp2_with fail
    refine (H1.out _).mono ?_
    rintro e w2 ⟨rfl, hw⟩
    subst w2
    go_wp2_with fail
    refine (H2.out _).mono ?_
    rintro e w2 ⟨rfl, hw⟩
    subst w2
    go_wp2
    go_ret
    exact ⟨rfl, HB.out⟩
  obtain ⟨hs1, hs2⟩ := hin
  obtain ⟨N, rfl⟩ := Int.eq_ofNat_of_zero_le (show 0 ≤ size by omega)
  go_enter Try.func3, Try.ntmps3
  go_wp2_with fail
  refine (awake_any _).mono ?_
  rintro e w1 ⟨rfl, hb⟩
  have HB := Lib.hid hb
  clear hb
  go_wp2_with fail
  refine (New_m w w1 HB.out N hs1 hs2).mono ?_
  rintro e w2 ⟨gd, rfl, h⟩
  have H := Lib.hid h
  clear h HB
  go_wp2_with fail
  refine (RingRef.New_in N w2 hs1 hs2).mono ?_
  rintro e w3 ⟨P, rfl, _, _, hb⟩
  replace H := Lib.hid (H.out.on hb)
  clear hb
  go_wp2_with fail
  refine (Head_m H.out (by simp)).mono ?_
  rintro e w4 ⟨rfl, h⟩
  replace H := Lib.hid h
  clear h
  go_wp2_with fail
  refine (Tail_m H.out).mono ?_
  rintro e w5 ⟨rfl, h⟩
  replace H := Lib.hid h
  clear h
  go_wp2_with fail
  refine (Waiting_m H.out (by simp)).mono ?_
  rintro e w6 ⟨rfl, h⟩
  replace H := Lib.hid h
  clear h
  have hF := Free_m H.out (by simp) (by omega) (by omega)
  rw [show (N : Int) - (([] : All).length : Int) + (tl [] : Int) = N by simp [tl]] at hF
  go_wp2_with fail
  refine hF.mono ?_
  rintro e w7 ⟨rfl, h⟩
  replace H := Lib.hid h
  clear h hF
  go_wp2
  go_ret
  exact ⟨rfl, H.out.below⟩

theorem own : ownKnob Try.prog.godebug = none := by kernel_rfl
theorem laid : laidOutB Try.prog = true := by kernel_rfl

set_option maxRecDepth 100000 in
theorem lifted (os : Os) (started : os.Started) (H : Type) (enc : TypeId × Value → H) :
    ReturnsInHanded {} Try.checked os 3 .any (Rows.ringNewsSpec.pre6 enc Try.prog Try.f3 Rows.ringNewsRow.domain false) (Rows.ringNewsSpec.post enc Try.prog Try.f3 false true false false) := by
  refine returnsInHanded_of_change (C := Try.checked) own started (by kernel_rfl) Try.func3
    (ChangeSpec.witness6 (enc := enc) (C := Try.checked) false ⟨#[], #[.int .i64 0], []⟩ 8 (by kernel_rfl) (by kernel_rfl) (by kernel_rfl) (by kernel_rfl)) ?_
  intro W base args ds gs before hval0 hW _ _
  have hval : ∀ (j : Nat) t v, Try.f3.params[j]? = some t → args[j]? = some v → Value.okWide Try.prog W .any base t v := hval0
  have hW' := hW
  obtain ⟨p, q, hA0, hV, rfl, hfz, hnd⟩ := hW
  have hA : DataW.TrodAll enc Try.prog W 0 (fun _ => true) true Try.f3.params.toList args.toList ds p := hA0
  rw [Try.params3] at hA hval
  obtain ⟨v0, d0, rfl, rfl, h0⟩ := trodAll_one hA
  obtain ⟨a0, rfl, rfl, rfl, wf0⟩ := open_int Try.underlying3 (hval 0 3 v0 rfl rfl) h0
  have hb0 : -9223372036854775808 ≤ a0 ∧ a0 ≤ 9223372036854775807 := by simpa [Lit.wf, IntKind.min, IntKind.max, IntKind.signed, IntKind.bits] using wf0
  refine (walk a0 W hb0.1 hb0.2).mono fun e W' ⟨he, hb⟩ => ?_
  subst he
  exact ⟨_, rfl, Law.post laid (by kernel_rfl) (by kernel_rfl) Try.underlying4 rfl hW' rfl hb⟩

theorem proved : Rows.RingNewsSaid :=
  OpenClaim.holds_of_wide 3 Try.f3 rfl rfl rfl rfl rfl rfl rfl ⟨rfl, rfl, rfl, rfl, rfl⟩ rfl rfl rfl rfl rfl (by kernel_rfl) Try.func3 (by kernel_rfl)
    (of_decide_eq_true (by kernel_rfl)) (by unfold Func.isWrapper; first | (rw [if_pos (by decide +kernel)]; kernel_rfl) | (rw [if_neg (by decide +kernel)]; exact ⟨rfl, rfl⟩))
    (fun os started H enc _ => lifted os started H enc)

end Go.Proofs.Ytmefmhjebodjgaa.ringNews
