/-
  PageReads holds: Read tells what the document's own answer tells; for whatever bytes came in. No condition.
-/
import Derived.Test.YteonjdigcecceaaPageKit
import Derived.Test.YteonjdigcecceaaPageOps
import Derived.OpenShut
import Derived.BigQuiet
import Derived.Test.YteonjdigcecceaaPageRefKit
namespace Go.Proofs.Yteonjdigcecceaa.pageReads
open Go.RowKit Go.ChangeShapes Go.WideShapes Page PagePkg PageLaw PageRef Lib
set_option maxRecDepth 4000

set_option maxHeartbeats 8000000 in
theorem walk (A : Option Addr) (n c : Nat) (D : List (List UInt8)) (A2 : Option Addr) (m c2 : Nat) (O : List (List UInt8)) (w : World) (hnc : n ≤ c) (hcm : c ≤ maxLen) (hr : Bys w w.heap.size A n D) (hnc2 : m ≤ c2) (hcm2 : c2 ≤ maxLen) (hr2 : Bys w w.heap.size A2 m O) :
    Calls Try.prog 5 #[.slice A n c, .slice A2 m c2] w fun e w' => e = .returned (.bool true) ∧ Below w.heap.size w w' := by
  have HA := Lib.hid (awake_any w)
  have HS1 := Lib.hid (fun X (hX : Below w.heap.size w X) => short_any A n c D X (hr.below hX) ⟨hnc, hcm⟩)
  have HS2 := Lib.hid (fun X (hX : Below w.heap.size w X) => short_any A2 m c2 O X (hr2.below hX) ⟨hnc2, hcm2⟩)
  have HR := Lib.hid hr
  have HR2 := Lib.hid hr2
  clear hr hr2 hnc hnc2 hcm hcm2
  by_cases h1 : Short D
  · simp only [decide_eq_true h1] at HS1
    have hn : n ≤ 1000000 := by have := h1.1; rw [HR.out.len] at this; omega
    by_cases h2 : Short O
    · simp only [decide_eq_true h2] at HS2
      have HRD := Lib.hid (fun X (hX : Below w.heap.size w X) => Read_any A A2 n c m c2 D O X (HR.out.below hX) (HR2.out.below hX) hn)
      have HRR := Lib.hid (fun X (hX : Below w.heap.size w X) => rRead_any A A2 n c m c2 D O X (HR.out.below hX) (HR2.out.below hX) hn)
      have HFS : Hid ((all D O).length ≤ 1000000) := Lib.hid (by
        have := read_len D O (min D.length O.length)
        have := HR.out.len
        unfold all
        omega)
      generalize all D O = fs at *
      clear h1 h2 HR HR2
      go_enter Try.func5, Try.ntmps5
      go_wp2_with fail
      refine HA.out.mono ?_
      rintro e w1 ⟨rfl, hb⟩
      have HB := Lib.hid hb
      clear hb HA
      go_wp2_with fail
      refine (HS1.out w1 HB.out).mono ?_
      rintro e w2 ⟨rfl, hw⟩
      subst w2
      clear HS1
      go_wp2_with fail
      refine (HS2.out w1 HB.out).mono ?_
      rintro e w2 ⟨rfl, hw⟩
      subst w2
      clear HS2
      go_wp2_with fail
      refine (HRD.out w1 HB.out).mono ?_
      rintro e w3 ⟨v, rs, rfl, hh, hkey, hb⟩
      have HB3 := Lib.hid (below_on HB.out hb HB.out.size)
      have HH := Lib.hid hh
      have HK := Lib.hid hkey
      clear hh hkey hb HRD
      go_wp2_with fail
      refine (HRR.out w3 HB3.out).mono ?_
      rintro e w4 ⟨v', rs', rfl, hh, hkey, hb⟩
      have HB4 := Lib.hid (below_on HB3.out hb HB3.out.size)
      have HSF := Lib.hid (sameFound_any fs (HH.out.below hb) hh HK.out hkey HFS.out)
      clear hh hkey hb HRR HH HK
      go_wp2_with fail
      refine HSF.out.mono ?_
      rintro e w5 ⟨rfl, hb⟩
      have HB5 := Lib.hid (below_on HB4.out hb HB4.out.size)
      clear hb HSF
      go_wp2
      go_ret
      exact ⟨rfl, HB5.out⟩
    · simp only [decide_eq_false h2] at HS2
      clear h1 h2 HR HR2
      go_enter Try.func5, Try.ntmps5
      go_wp2_with fail
      refine HA.out.mono ?_
      rintro e w1 ⟨rfl, hb⟩
      have HB := Lib.hid hb
      clear hb HA
      go_wp2_with fail
      refine (HS1.out w1 HB.out).mono ?_
      rintro e w2 ⟨rfl, hw⟩
      subst w2
      clear HS1
      go_wp2_with fail
      refine (HS2.out w1 HB.out).mono ?_
      rintro e w2 ⟨rfl, hw⟩
      subst w2
      clear HS2
      go_wp2
      go_ret
      exact ⟨rfl, HB.out⟩
  · simp only [decide_eq_false h1] at HS1
    generalize decide (Short O) = b2 at HS2
    clear h1 HR HR2
    go_enter Try.func5, Try.ntmps5
    go_wp2_with fail
    refine HA.out.mono ?_
    rintro e w1 ⟨rfl, hb⟩
    have HB := Lib.hid hb
    clear hb HA
    go_wp2_with fail
    refine (HS1.out w1 HB.out).mono ?_
    rintro e w2 ⟨rfl, hw⟩
    subst w2
    clear HS1
    go_wp2_with fail
    refine (HS2.out w1 HB.out).mono ?_
    rintro e w2 ⟨rfl, hw⟩
    subst w2
    clear HS2
    cases b2 with
    | true =>
      go_wp2
      go_ret
      exact ⟨rfl, HB.out⟩
    | false =>
      go_wp2
      go_ret
      exact ⟨rfl, HB.out⟩

theorem own : ownKnob Try.prog.godebug = none := by kernel_rfl
theorem laid : laidOutB Try.prog = true := by kernel_rfl

set_option maxRecDepth 100000 in
theorem lifted (os : Os) (started : os.Started) (H : Type) (enc : TypeId × Value → H) :
    ReturnsInHanded {} Try.checked os 5 .any (Rows.pageReadsSpec.pre6 enc Try.prog Try.f5 Rows.pageReadsRow.domain false) (Rows.pageReadsSpec.post enc Try.prog Try.f5 false true false false) := by
  refine returnsInHanded_of_change (C := Try.checked) own started (by kernel_rfl) Try.func5
    (ChangeSpec.witness6 (enc := enc) (C := Try.checked) false ⟨#[], #[.slice none 0 0, .slice none 0 0], []⟩ 8 (by kernel_rfl) (by kernel_rfl) (by kernel_rfl) (by kernel_rfl)) ?_
  intro W base args ds gs before hval0 hW _ _
  have hval : ∀ (j : Nat) t v, Try.f5.params[j]? = some t → args[j]? = some v → Value.okWide Try.prog W .any base t v := hval0
  have hW' := hW
  obtain ⟨p, q, hA0, hV, rfl, hfz, hnd⟩ := hW
  have hA : DataW.TrodAll enc Try.prog W 0 (fun _ => true) true Try.f5.params.toList args.toList ds p := hA0
  rw [Try.params5] at hA hval
  obtain ⟨v0, v1, d0, d1, p0, p1, rfl, rfl, rfl, h0, h1⟩ := trodAll_two hA
  obtain ⟨A0, n0, c0, l0, rfl, hnc0, hcm0, hr0⟩ := PageOps.open_bys (hval 0 25 v0 rfl rfl) h0
  obtain ⟨A1, n1, c1, l1, rfl, hnc1, hcm1, hr1⟩ := PageOps.open_bys (hval 1 25 v1 rfl rfl) h1
  refine (walk A0 n0 c0 l0 A1 n1 c1 l1 W hnc0 hcm0 hr0 hnc1 hcm1 hr1).mono fun e W' ⟨he, hb⟩ => ?_
  subst he
  exact ⟨_, rfl, Law.post laid (by kernel_rfl) (by kernel_rfl) Try.underlying4 rfl hW' rfl hb⟩

theorem proved : Rows.PageReadsSaid :=
  OpenClaim.holds_of_wide 5 Try.f5 rfl rfl rfl rfl rfl rfl rfl ⟨rfl, rfl, rfl, rfl, rfl⟩ rfl rfl rfl rfl rfl (by kernel_rfl) Try.func5 (by kernel_rfl)
    (of_decide_eq_true (by kernel_rfl)) (by unfold Func.isWrapper; first | (rw [if_pos (by decide +kernel)]; kernel_rfl) | (rw [if_neg (by decide +kernel)]; exact ⟨rfl, rfl⟩))
    (fun os started H enc _ => lifted os started H enc)

end Go.Proofs.Yteonjdigcecceaa.pageReads
