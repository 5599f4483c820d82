/-
  GateSplits holds: how any number of tokens is parted. No condition.
-/
import Derived.Test.YtldomhghkfbbkaaGateKit
namespace Go.Proofs.Ytldomhghkfbbkaa.gateSplits
open Go.RowKit Go.ChangeShapes Go.WideShapes Gate GatePkg GateRef GateLaw Lib
set_option maxRecDepth 4000

theorem walk (y z u x : Int) (w : World) (hy : B64 y) :
    Calls Try.prog 3 #[.agg #[.int .i64 y, .int .i64 z, .int .i64 u, .int .i64 x]] w fun e w' => e = .returned (.bool true) ∧ Below w.heap.size w w' := by
  have HA := Lib.hid (fun W => awake_any W)
  have HS := Lib.hid (fun W => Split_any y z u x W)
  have HR := Lib.hid (fun W => rSplit_any y z u x W hy.1 hy.2)
  generalize fst y z u x = p at *
  generalize snd y z u x = q at *
  clear hy
  go_enter Try.func3, Try.ntmps3
  go_wp2_with (first | (refine (HA.out _).mono ?_; rintro e w' ⟨rfl, hw⟩; subst hw; clear HA) | (refine (HS.out _).mono ?_; rintro e w' ⟨rfl, hw⟩; subst hw; clear HS) | (refine (HR.out _).mono ?_; rintro e w' ⟨rfl, hw⟩; subst hw; clear HR))
  go_ret
  exact ⟨by simp, (Below.refl _ w).alloc (Nat.le_refl _) _⟩
theorem own : ownKnob Try.prog.godebug = none := by kernel_rfl
theorem laid : laidOutB Try.prog = true := by kernel_rfl
theorem one64 : Try.prog.cellsOf 3 = 1 := by kernel_rfl

set_option maxRecDepth 100000 in
theorem lifted (os : Os) (started : os.Started) (H : Type) (enc : TypeId × Value → H) :
    ReturnsInHanded {} Try.checked os 3 .any (Rows.gateSplitsSpec.pre6 enc Try.prog Try.f3 Rows.gateSplitsRow.domain false) (Rows.gateSplitsSpec.post enc Try.prog Try.f3 false true false false) := by
  refine returnsInHanded_of_change (C := Try.checked) own started (by kernel_rfl) Try.func3
    (ChangeSpec.witness6 (enc := enc) (C := Try.checked) false ⟨#[], #[.agg #[.int .i64 0, .int .i64 0, .int .i64 0, .int .i64 0]], []⟩ 8 (by kernel_rfl) (by kernel_rfl) (by kernel_rfl) (by kernel_rfl)) ?_
  intro W base args ds gs before hval0 hW _ _
  have hval : ∀ (j : Nat) t v, Try.f3.params[j]? = some t → args[j]? = some v → Value.okWide Try.prog W .any base t v := hval0
  have hW' := hW
  obtain ⟨p, q, hA0, hV, rfl, hfz, hnd⟩ := hW
  have hA : DataW.TrodAll enc Try.prog W 0 (fun _ => true) true Try.f3.params.toList args.toList ds p := hA0
  rw [Try.params3] at hA hval
  obtain ⟨v0, d0, rfl, rfl, h0⟩ := trodAll_one hA
  obtain ⟨y0, z0, u0, x0, rfl, hy0, hz0, hu0, hx0⟩ := GateLaw.open_four Try.underlying22 (by kernel_rfl) Try.underlying3 one64 (hval 0 22 v0 rfl rfl) h0
  refine (walk y0 z0 u0 x0 W hy0).mono fun e W' ⟨he, hb⟩ => ?_
  subst he
  exact ⟨_, rfl, Law.post laid (by kernel_rfl) (by kernel_rfl) Try.underlying4 rfl hW' rfl hb⟩

theorem proved : Rows.GateSplitsSaid :=
  OpenClaim.holds_of_wide 3 Try.f3 rfl rfl rfl rfl rfl rfl rfl ⟨rfl, rfl, rfl, rfl, rfl⟩ rfl rfl rfl rfl rfl (by kernel_rfl) Try.func3 (by kernel_rfl)
    (of_decide_eq_true (by kernel_rfl)) (by unfold Func.isWrapper; first | (rw [if_pos (by decide +kernel)]; kernel_rfl) | (rw [if_neg (by decide +kernel)]; exact ⟨rfl, rfl⟩))
    (fun os started H enc _ => lifted os started H enc)

end Go.Proofs.Ytldomhghkfbbkaa.gateSplits
