/-
  VictimOrders holds: in which order any lines may be moved; for whatever lines came in. No condition.
-/
import Derived.Test.YtodaigdlfpinhaaVictimKit
import Derived.Test.YtodaigdlfpinhaaVictimOps
import Derived.Test.YtodaigdlfpinhaaLawKit
import Derived.OpenShut
namespace Go.Proofs.Ytodaigdlfpinhaa.victimOrders
open Go.RowKit Go.ChangeShapes Go.WideShapes Victim VictimPkg VictimLaw Lib
set_option maxRecDepth 4000

set_option maxHeartbeats 8000000 in
theorem walk (A : Option Addr) (n c : Nat) (f : Nat → Ln) (w : World) (hnc : n ≤ c) (hcm : c ≤ maxLen) (hr : Lines w w.heap.size A n f) :
    Calls Try.prog 4 #[.slice A n c] w fun e w' => e = .returned (.bool true) ∧ Below w.heap.size w w' := by
  have hnm := Nat.le_trans hnc hcm
  unfold maxLen at hnm
  clear hnc hcm
  have HA := Lib.hid (awake_any w)
  by_cases hbig : 300 < n
  · have hbig' : (300 : Int) < n := by omega
    clear hr
    go_enter Try.func4, Try.ntmps4
    go_wp2_with fail
    refine HA.out.mono ?_
    rintro e w1 ⟨rfl, hb⟩
    have HB := Lib.hid hb
    clear hb
    go_wp2
    go_ret
    exact ⟨rfl, HB.out⟩
  have hn : n ≤ 300 := by omega
  have hn' : (n : Int) ≤ 300 := by omega
  have hnb : decide ((300 : Int) < (n : Int)) = false := decide_eq_false (by omega)
  have HR := Lib.hid hr
  clear hr hbig
  have HP := Lib.hid (fun W (hW : Below w.heap.size w W) => Order_any (HR.out.keep hW) hW.size (by omega) c)
  have HQ := Lib.hid (fun W (hW : Below w.heap.size w W) => rOrder_any (HR.out.keep hW) hW.size (by omega) c)
  have hrl := rks_len f n
  generalize idx f n = zs at *
  generalize (rks f n).length = r at *
  clear HR
  go_enter Try.func4, Try.ntmps4
  go_wp2_with fail
  refine HA.out.mono ?_
  rintro e w1 ⟨rfl, hb⟩
  have HB := Lib.hid hb
  clear hb
  go_wp2_with fail
  refine (HP.out _ HB.out).mono ?_
  rintro e w2 ⟨Q, m, rfl, rfl, hQ, hin, hb⟩
  replace HB := Lib.hid (below_then HB.out hb)
  have HIN := Lib.hid hin
  clear hb HP hin hQ
  go_wp2_with fail
  refine (HQ.out _ HB.out).mono ?_
  rintro e w3 ⟨Q', m', rfl, rfl, hQ, hin, hb⟩
  have HS := Lib.hid (same_ints (c := m') (c' := m') (by omega) (ints_keep HIN.out hb) hin)
  replace HB := Lib.hid (below_then HB.out hb)
  clear hb HQ hin hQ HIN
  go_wp2_with fail
  refine HS.out.mono ?_
  rintro e w4 ⟨rfl, hb⟩
  replace HB := Lib.hid (below_then HB.out hb)
  clear hb HS
  go_wp2
  go_ret
  exact ⟨rfl, HB.out⟩

theorem own : ownKnob Try.prog.godebug = none := by kernel_rfl
theorem laid : laidOutB Try.prog = true := by kernel_rfl

set_option maxRecDepth 100000 in
theorem lifted (os : Os) (started : os.Started) (H : Type) (enc : TypeId × Value → H) :
    ReturnsInHanded {} Try.checked os 4 .any (Rows.victimOrdersSpec.pre6 enc Try.prog Try.f4 Rows.victimOrdersRow.domain false) (Rows.victimOrdersSpec.post enc Try.prog Try.f4 false true false false) := by
  refine returnsInHanded_of_change (C := Try.checked) own started (by kernel_rfl) Try.func4
    (ChangeSpec.witness6 (enc := enc) (C := Try.checked) false ⟨#[], #[.slice none 0 0], []⟩ 8 (by kernel_rfl) (by kernel_rfl) (by kernel_rfl) (by kernel_rfl)) ?_
  intro W base args ds gs before hval0 hW _ _
  have hval : ∀ (j : Nat) t v, Try.f4.params[j]? = some t → args[j]? = some v → Value.okWide Try.prog W .any base t v := hval0
  have hW' := hW
  obtain ⟨p, q, hA0, hV, rfl, hfz, hnd⟩ := hW
  have hA : DataW.TrodAll enc Try.prog W 0 (fun _ => true) true Try.f4.params.toList args.toList ds p := hA0
  rw [Try.params4] at hA hval
  obtain ⟨v0, d0, rfl, rfl, h0⟩ := trodAll_one hA
  obtain ⟨A0, n0, c0, f0, rfl, hnc0, hcm0, hr0⟩ := VictimOps.open_lines (hval 0 22 v0 rfl rfl) h0
  refine (walk A0 n0 c0 f0 W hnc0 hcm0 hr0).mono fun e W' ⟨he, hb⟩ => ?_
  subst he
  exact ⟨_, rfl, Law.post laid (by kernel_rfl) (by kernel_rfl) Try.underlying4 rfl hW' rfl hb⟩

theorem proved : Rows.VictimOrdersSaid :=
  OpenClaim.holds_of_wide 4 Try.f4 rfl rfl rfl rfl rfl rfl rfl ⟨rfl, rfl, rfl, rfl, rfl⟩ rfl rfl rfl rfl rfl (by kernel_rfl) Try.func4 (by kernel_rfl)
    (of_decide_eq_true (by kernel_rfl)) (by unfold Func.isWrapper; first | (rw [if_pos (by decide +kernel)]; kernel_rfl) | (rw [if_neg (by decide +kernel)]; exact ⟨rfl, rfl⟩))
    (fun os started H enc _ => lifted os started H enc)

end Go.Proofs.Ytodaigdlfpinhaa.victimOrders
