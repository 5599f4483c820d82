/-
  A struct of three ints in a block of its own: read, loaded and laid whole. Nothing of the program's code is named here.
-/
import Derived.Test.YteonjdigcecceaaArr
namespace Go.Proofs.Yteonjdigcecceaa.OobPkg
open Go.RowKit
set_option maxRecDepth 4000

/-- The block g holds three ints, as a value of type t. -/
def Three (t : TypeId) (w : World) (g : Nat) (k l s : Int) : Prop := w.heap[g]? = some (.cells #[.int .i64 k, .int .i64 l, .int .i64 s] t (0, 0))

/-- Their value. -/
abbrev tri (k l s : Int) : Value := .agg #[.int .i64 k, .int .i64 l, .int .i64 s]

section
variable {P : Program} {t : TypeId} {w w' : World} {g : Nat} {k l s : Int}

theorem Three.lt (h : Three t w g k l s) : g < w.heap.size := (Array.getElem?_eq_some_iff.1 h).1

theorem Three.keep (h : Three t w g k l s) (hb : Below w.heap.size w w') : Three t w' g k l s := (hb.block g h.lt).trans h

theorem Three.keepd (h : Three t w g k l s) (hb : Below w.drew.heap.size w.drew w') : Three t w' g k l s := Three.keep (w := w.drew) h hb

theorem Three.drew (h : Three t w g k l s) : Three t w.drew g k l s := h

theorem Three.under {M : Nat} (h : Three t w g k l s) (hb : Below M w w') (hg : g < M) : Three t w' g k l s := (hb.block g hg).trans h

theorem Three.new (t : TypeId) (w : World) (k l s : Int) : Three t (w.alloc (.cells #[.int .i64 k, .int .i64 l, .int .i64 s] t)) w.heap.size k l s := heap_alloc_new w _

theorem Three.newAt (hg : w.heap.size = g) (k l s : Int) : Three t (w.alloc (.cells #[.int .i64 k, .int .i64 l, .int .i64 s] t)) g k l s := by rw [← hg]; exact Three.new t w k l s

theorem Three.old (h : Three t w g k l s) (o : Obj) : Three t (w.alloc o) g k l s := h.keep ((Below.refl _ _).alloc (Nat.le_refl _) _)

theorem Three.c0 (h : Three t w g k l s) : w.cell? ⟨g, 0, none⟩ = some (.int .i64 k) := by simp [World.cell?, show w.heap[g]? = _ from h]
theorem Three.c1 (h : Three t w g k l s) : w.cell? ⟨g, 1, none⟩ = some (.int .i64 l) := by simp [World.cell?, show w.heap[g]? = _ from h]
theorem Three.c2 (h : Three t w g k l s) : w.cell? ⟨g, 2, none⟩ = some (.int .i64 s) := by simp [World.cell?, show w.heap[g]? = _ from h]

/-- Loaded whole, as the walk leaves it. -/
theorem Three.load (h : Three t w g k l s) : (loadCellsFrom ⟨g, 0, none⟩ 0 3 #[]).run P w = .ok #[.int .i64 k, .int .i64 l, .int .i64 s] w := by
  have hl := run_loadCells_list (P := P) w ⟨g, 0, none⟩ [.int .i64 k, .int .i64 l, .int .i64 s] (fun j v hv => by
    rw [Go.WideShapes.add_plain, Nat.zero_add]
    simp only [World.cell?, show w.heap[g]? = _ from h]
    simpa using hv)
  exact hl

/-- Laid whole, as the walk leaves it. -/
theorem Three.store (P : Program) (h : Three t w g k l s) (k' l' s' : Int) :
    ∃ w', (storeCells ⟨g, 0, none⟩ [.int .i64 k', .int .i64 l', .int .i64 s']).run P w = .ok () w' ∧ Three t w' g k' l' s' ∧ Below g w w' := by
  have e := run_storeCells_from (P := P) g t [.int .i64 k', .int .i64 l', .int .i64 s'] 0 _ w h (by simp) (by intro v hv; simp at hv; rcases hv with rfl | rfl | rfl <;> rfl)
  refine ⟨_, e, ?_, below_setRow (Below.refl g w) (Nat.le_refl _) _⟩
  have h2 := setRow_heap w g _ ((([Value.int .i64 k, .int .i64 l, .int .i64 s] : List Value).take 0 ++ ([.int .i64 k', .int .i64 l', .int .i64 s'] : List Value)).toArray) t (0, 0) h
  simpa [Three] using h2
end

end Go.Proofs.Yteonjdigcecceaa.OobPkg
