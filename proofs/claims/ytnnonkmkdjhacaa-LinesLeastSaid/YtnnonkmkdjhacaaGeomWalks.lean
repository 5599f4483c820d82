/-
  What each function of package geom does: one contract a function, over the mathematics of GeomMath.
-/
import Derived.Test.YtnnonkmkdjhacaaRows
import Derived.Test.YtnnonkmkdjhacaaGeomMath
import Derived.WalkKit
import Derived.OwnWalk
import Derived.Lib.Hide
import Derived.BigQuiet
import Derived.Deep.RegionHeld
namespace Go.Proofs.Ytnnonkmkdjhacaa
open Go.RowKit
set_option maxRecDepth 4000

theorem wrap_is {n : Int} (h0 : -9223372036854775808 ≤ n) (h1 : n ≤ 9223372036854775807) : wrap64 n = n := IntWalk.wrap64_in n ⟨h0, h1⟩

theorem kwrap_is {n : Int} (h0 : -9223372036854775808 ≤ n) (h1 : n ≤ 9223372036854775807) : IntKind.i64.wrap n = n := (IntWalk.i64_left n).trans (wrap_is h0 h1)

theorem cell_stays {w w' : World} {a : Addr} {v : Value} (hb : Below w.heap.size w w') (h : w.cell? a = some v) : w'.cell? a = some v :=
  (hb.cell (World.block_lt_of_cell? w a h)).trans h

theorem below_then {a w w' : World} (h : Below a.heap.size a w) (hb : Below w.heap.size w w') : Below a.heap.size a w' := h.trans (hb.mono h.size)

/-- A geometry in a block of its own. -/
abbrev Geo (w : World) (b : Nat) (c l k p s : Int) : Prop := w.cell? ⟨b, 0, none⟩ = some (.int .i64 c) ∧ w.cell? ⟨b, 1, none⟩ = some (.int .i64 l) ∧ w.cell? ⟨b, 2, none⟩ = some (.int .i64 k) ∧ w.cell? ⟨b, 3, none⟩ = some (.int .i64 p) ∧ w.cell? ⟨b, 4, none⟩ = some (.int .i64 s)

theorem geo_keep {w w' : World} {b : Nat} {c l k p s : Int} (h : Geo w b c l k p s) (hb : Below w.heap.size w w') : Geo w' b c l k p s :=
  ⟨cell_stays hb h.1, cell_stays hb h.2.1, cell_stays hb h.2.2.1, cell_stays hb h.2.2.2.1, cell_stays hb h.2.2.2.2⟩

theorem geo_new (w : World) (t : TypeId) (c l k p s : Int) : Geo (w.alloc (.cells #[.int .i64 c, .int .i64 l, .int .i64 k, .int .i64 p, .int .i64 s] t)) w.heap.size c l k p s := by
  refine ⟨?_, ?_, ?_, ?_, ?_⟩ <;> simp [World.cell?_alloc_at]

theorem within_any (a b : Int) (w : World) :
    Calls Try.prog 52 #[.int .i64 a, .int .i64 b] w fun e w' => e = .returned (.bool (decide (1 ≤ a) && decide (a ≤ b))) ∧ w' = w := by
  go_enter Try.func52, Try.ntmps52
  by_cases h1 : 1 ≤ a
  · have h2 : decide (1 ≤ a) = true := by simpa using h1
    go_wp2
    go_ret
    rw [h2]
    exact ⟨rfl, rfl⟩
  · have h2 : decide (1 ≤ a) = false := by simpa using h1
    go_wp2
    go_ret
    exact ⟨rfl, rfl⟩

theorem right_any (c l k p s : Int) (w : World) :
    Calls Try.prog 24 #[.agg #[.int .i64 c, .int .i64 l, .int .i64 k, .int .i64 p, .int .i64 s]] w fun e w' => e = .returned (.bool (decide (Geom.ok c l k p s))) ∧ Below w.heap.size w w' := by
  have HB := Lib.hid ((Below.refl w.heap.size w).alloc (Nat.le_refl _) (.cells #[.int .i64 c, .int .i64 l, .int .i64 k, .int .i64 p, .int .i64 s] 23))
  have done : ∀ {x y : Bool} {w'}, x = y → Below w.heap.size w w' → Ending.returned (.bool x) = .returned (.bool y) ∧ Below w.heap.size w w' := fun h hb => ⟨by rw [h], hb⟩
  go_enter Try.func24, Try.ntmps24
  go_wp2_with (first | (go_at_call 52; refine (within_any _ _ _).mono ?_; rintro e w2 ⟨rfl, rfl⟩))
  all_goals go_ret
  all_goals refine done ?_ HB.out
  all_goals rw [Bool.eq_iff_iff]
  all_goals simp only [Bool.and_eq_true, decide_eq_true_eq, Bool.false_eq_true, false_iff]
  all_goals unfold Geom.ok
  all_goals omega

theorem units_any (c l k p s : Int) (w : World) :
    Calls Try.prog 54 #[.agg #[.int .i64 c, .int .i64 l, .int .i64 k, .int .i64 p, .int .i64 s]] w fun e w' => ∃ z, e = .returned (.int .i64 z) ∧ (Geom.ok c l k p s → z = c * l) ∧ Below w.heap.size w w' := by
  go_enter Try.func54, Try.ntmps54
  go_wp2
  go_ret
  refine ⟨_, rfl, fun h => ?_, (Below.refl w.heap.size w).alloc (Nat.le_refl _) _⟩
  have := Geom.sizes h
  exact wrap_is (by have := this.u0; omega) (by have := this.u1; omega)

section
variable {c l k p s U R L N : Int}

theorem units_is (h : Geom.Sizes c l k p s U R L N) (w : World) :
    Calls Try.prog 54 #[.agg #[.int .i64 c, .int .i64 l, .int .i64 k, .int .i64 p, .int .i64 s]] w fun e w' => e = .returned (.int .i64 U) ∧ Below w.heap.size w w' :=
  (units_any c l k p s w).mono fun e w' ⟨z, he, hz, hb⟩ => ⟨by rw [he, hz h.may, h.u], hb⟩

end

end Go.Proofs.Ytnnonkmkdjhacaa
