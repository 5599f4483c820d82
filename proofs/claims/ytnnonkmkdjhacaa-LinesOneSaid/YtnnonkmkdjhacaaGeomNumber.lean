/-
  What each function of package geom does, the second part: the number of a place.
-/
import Derived.Test.YtnnonkmkdjhacaaGeomWalks
namespace Go.Proofs.Ytnnonkmkdjhacaa
open Go.RowKit
set_option maxRecDepth 4000

/-- A place in a block of its own. -/
abbrev Pla (w : World) (b : Nat) (u k g t : Int) : Prop := w.cell? ⟨b, 0, none⟩ = some (.int .i64 u) ∧ w.cell? ⟨b, 1, none⟩ = some (.int .i64 k) ∧ w.cell? ⟨b, 2, none⟩ = some (.int .i64 g) ∧ w.cell? ⟨b, 3, none⟩ = some (.int .i64 t)

theorem pla_keep {w w' : World} {b : Nat} {u k g t : Int} (h : Pla w b u k g t) (hb : Below w.heap.size w w') : Pla w' b u k g t :=
  ⟨cell_stays hb h.1, cell_stays hb h.2.1, cell_stays hb h.2.2.1, cell_stays hb h.2.2.2⟩

theorem pla_new (w : World) (B : Nat) (hB : w.heap.size = B) (ty : TypeId) (u k g t : Int) : Pla (w.alloc (.cells #[.int .i64 u, .int .i64 k, .int .i64 g, .int .i64 t] ty)) B u k g t := by
  subst hB
  refine ⟨?_, ?_, ?_, ?_⟩ <;> simp [World.cell?_alloc_at]

theorem both_keep {w w' : World} {b b' : Nat} {c l k p s u k' g t : Int} (h : Geo w b c l k p s ∧ Pla w b' u k' g t) (hb : Below w.heap.size w w') : Geo w' b c l k p s ∧ Pla w' b' u k' g t :=
  ⟨geo_keep h.1 hb, pla_keep h.2 hb⟩

end Go.Proofs.Ytnnonkmkdjhacaa
