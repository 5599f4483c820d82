/-
  VictimGains holds: what any of any lines gives back; for whatever came in. No condition.
-/
import Derived.Test.YtodaigdlfpinhaaVictimKit
import Derived.Test.YtodaigdlfpinhaaVictimOps
import Derived.Test.YtodaigdlfpinhaaLawKit
import Derived.OpenShut
namespace Go.Proofs.Ytodaigdlfpinhaa.victimGains
open Go.RowKit Go.ChangeShapes Go.WideShapes Victim VictimPkg VictimLaw Lib
set_option maxRecDepth 4000

set_option maxHeartbeats 8000000 in
theorem walk (A : Option Addr) (n c : Nat) (f : Nat → Ln) (i : Int) (w : World) (hnc : n ≤ c) (hcm : c ≤ maxLen) (hr : Lines w w.heap.size A n f) (_ : -9223372036854775808 ≤ i) (_ : i ≤ 9223372036854775807) :
    Calls Try.prog 5 #[.slice A n c, .int .i64 i] w fun e w' => e = .returned (.bool true) ∧ Below w.heap.size w w' := by
  have hnm := Nat.le_trans hnc hcm
  unfold maxLen at hnm
  clear hnc hcm
  have HA := Lib.hid (awake_any w)
  by_cases hbig : 300 < n
  · have hbig' : (300 : Int) < n := by omega
    clear hr
    go_enter Try.func5, Try.ntmps5
    go_wp2_with fail
    refine HA.out.mono ?_
    rintro e w1 ⟨rfl, hb⟩
    have HB := Lib.hid hb
    clear hb
    go_wp2
    go_ret
    exact ⟨rfl, HB.out⟩
  have hn : n ≤ 300 := by omega
  have hn' : (n : Int) ≤ 300 := by omega
  have hnb : decide ((300 : Int) < (n : Int)) = false := decide_eq_false (by omega)
  have HR := Lib.hid hr
  clear hr hbig
  have HP := Lib.hid (fun W (hW : Below w.heap.size w W) => Gain_any (HR.out.keep hW) hW.size i c)
  have HQ := Lib.hid (fun W (hW : Below w.heap.size w W) => rGain_any (HR.out.keep hW) hW.size i c)
  generalize gain f n i = x at *
  clear HR
  go_enter Try.func5, Try.ntmps5
  go_wp2_with fail
  refine HA.out.mono ?_
  rintro e w1 ⟨rfl, hb⟩
  have HB := Lib.hid hb
  clear hb
  go_wp2_with fail
  refine (HP.out _ HB.out).mono ?_
  rintro e w2 ⟨rfl, hb⟩
  replace HB := Lib.hid (below_then HB.out hb)
  clear hb HP
  go_wp2_with fail
  refine (HQ.out _ HB.out).mono ?_
  rintro e w3 ⟨rfl, hb⟩
  replace HB := Lib.hid (below_then HB.out hb)
  clear hb HQ
  go_wp2
  go_ret
  exact ⟨by first | rfl | simp, HB.out⟩

theorem own : ownKnob Try.prog.godebug = none := by kernel_rfl
theorem laid : laidOutB Try.prog = true := by kernel_rfl

set_option maxRecDepth 100000 in
theorem lifted (os : Os) (started : os.Started) (H : Type) (enc : TypeId × Value → H) :
    ReturnsInHanded {} Try.checked os 5 .any (Rows.victimGainsSpec.pre6 enc Try.prog Try.f5 Rows.victimGainsRow.domain false) (Rows.victimGainsSpec.post enc Try.prog Try.f5 false true false false) := by
  refine returnsInHanded_of_change (C := Try.checked) own started (by kernel_rfl) Try.func5
    (ChangeSpec.witness6 (enc := enc) (C := Try.checked) false ⟨#[], #[.slice none 0 0, .int .i64 0], []⟩ 8 (by kernel_rfl) (by kernel_rfl) (by kernel_rfl) (by kernel_rfl)) ?_
  intro W base args ds gs before hval0 hW _ _
  have hval : ∀ (j : Nat) t v, Try.f5.params[j]? = some t → args[j]? = some v → Value.okWide Try.prog W .any base t v := hval0
  have hW' := hW
  obtain ⟨p, q, hA0, hV, rfl, hfz, hnd⟩ := hW
  have hA : DataW.TrodAll enc Try.prog W 0 (fun _ => true) true Try.f5.params.toList args.toList ds p := hA0
  rw [Try.params5] at hA hval
  obtain ⟨v0, v1, d0, d1, p0, p1, rfl, rfl, rfl, h0, h1⟩ := trodAll_two hA
  obtain ⟨A0, n0, c0, f0, rfl, hnc0, hcm0, hr0⟩ := VictimOps.open_lines (hval 0 22 v0 rfl rfl) h0
  obtain ⟨a1, rfl, rfl, rfl, wf1⟩ := open_int Try.underlying3 (hval 1 3 v1 rfl rfl) h1
  have hb1 : -9223372036854775808 ≤ a1 ∧ a1 ≤ 9223372036854775807 := by simpa [Lit.wf, IntKind.min, IntKind.max, IntKind.signed, IntKind.bits] using wf1
  refine (walk A0 n0 c0 f0 a1 W hnc0 hcm0 hr0 hb1.1 hb1.2).mono fun e W' ⟨he, hb⟩ => ?_
  subst he
  exact ⟨_, rfl, Law.post laid (by kernel_rfl) (by kernel_rfl) Try.underlying4 rfl hW' rfl hb⟩

theorem proved : Rows.VictimGainsSaid :=
  OpenClaim.holds_of_wide 5 Try.f5 rfl rfl rfl rfl rfl rfl rfl ⟨rfl, rfl, rfl, rfl, rfl⟩ rfl rfl rfl rfl rfl (by kernel_rfl) Try.func5 (by kernel_rfl)
    (of_decide_eq_true (by kernel_rfl)) (by unfold Func.isWrapper; first | (rw [if_pos (by decide +kernel)]; kernel_rfl) | (rw [if_neg (by decide +kernel)]; exact ⟨rfl, rfl⟩))
    (fun os started H enc _ => lifted os started H enc)

end Go.Proofs.Ytodaigdlfpinhaa.victimGains
