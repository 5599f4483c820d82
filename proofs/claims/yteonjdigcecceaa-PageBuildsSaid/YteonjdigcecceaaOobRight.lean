/-
  What Right of package oob does: one contract, for every input.
-/
import Derived.Test.YteonjdigcecceaaOobMath
import Derived.Test.YteonjdigcecceaaArr
namespace Go.Proofs.Yteonjdigcecceaa.OobPkg
open Go.RowKit Go.ChangeShapes Go.WideShapes
set_option maxRecDepth 4000

/-- The value of metadata. -/
abbrev oob (k l s : Int) : Value := .agg #[.int .i64 k, .int .i64 l, .int .i64 s]

theorem within_any (a b : Int) (w : World) :
    Calls Try.prog 51 #[.int .i64 a, .int .i64 b] w fun e w' => e = .returned (.bool (decide (0 ≤ a) && decide (a ≤ b))) ∧ w' = w := by
  go_enter Try.func51, Try.ntmps51
  by_cases h1 : 0 ≤ a
  · have h2 : decide (0 ≤ a) = true := by simpa using h1
    go_wp2
    go_ret
    rw [h2]
    exact ⟨rfl, rfl⟩
  · have h2 : decide (0 ≤ a) = false := by simpa using h1
    go_wp2
    go_ret
    exact ⟨rfl, rfl⟩

theorem right_any (k l s : Int) (w : World) :
    Calls Try.prog 36 #[oob k l s] w fun e w' => e = .returned (.bool (decide (Oob.Ok k l s))) ∧ Below w.heap.size w w' := by
  have HB := Lib.hid ((Below.refl w.heap.size w).alloc (Nat.le_refl _) (.cells #[.int .i64 k, .int .i64 l, .int .i64 s] 44))
  have done : ∀ {x y : Bool} {w'}, x = y → Below w.heap.size w w' → Ending.returned (.bool x) = .returned (.bool y) ∧ Below w.heap.size w w' := fun h hb => ⟨by rw [h], hb⟩
  go_enter Try.func36, Try.ntmps36
  go_wp2_with (first | (go_at_call 51; refine (within_any _ _ _).mono ?_; rintro e w2 ⟨rfl, rfl⟩))
  all_goals go_ret
  all_goals refine done ?_ HB.out
  all_goals rw [Bool.eq_iff_iff]
  all_goals simp only [Bool.and_eq_true, decide_eq_true_eq, Bool.false_eq_true, false_iff]
  all_goals unfold Oob.Ok
  all_goals omega

end Go.Proofs.Yteonjdigcecceaa.OobPkg
