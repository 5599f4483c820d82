/-
  A block of five or six cells, known whole: its cells, laid anew, kept. Nothing of the program's code is named here.
-/
import Derived.Test.YtkpneckgpolaoaaBag
namespace Go.Proofs.Ytkpneckgpolaoaa
open Go.RowKit

/-- The block g is a struct of five cells. -/
def Five (w : World) (g : Nat) (t : TypeId) (x0 x1 x2 x3 x4 : Value) : Prop := w.heap[g]? = some (.cells #[x0, x1, x2, x3, x4] t (0, 0))

section
variable {w w' : World} {g : Nat} {t : TypeId} {x0 x1 x2 x3 x4 : Value}
theorem Five.cells (h : Five w g t x0 x1 x2 x3 x4) : w.cell? ⟨g, 0, none⟩ = some x0 ∧ w.cell? ⟨g, 1, none⟩ = some x1 ∧ w.cell? ⟨g, 2, none⟩ = some x2 ∧ w.cell? ⟨g, 3, none⟩ = some x3 ∧ w.cell? ⟨g, 4, none⟩ = some x4 := by
  unfold Five at h
  simp [World.cell?, h]
theorem Five.free (h : Five w g t x0 x1 x2 x3 x4) : w.frozen? ⟨g, 0, none⟩ = false ∧ w.frozen? ⟨g, 1, none⟩ = false ∧ w.frozen? ⟨g, 2, none⟩ = false ∧ w.frozen? ⟨g, 3, none⟩ = false ∧ w.frozen? ⟨g, 4, none⟩ = false := by
  unfold Five at h
  simp [World.frozen?, h]
theorem Five.lt (h : Five w g t x0 x1 x2 x3 x4) : g < w.heap.size := (Array.getElem?_eq_some_iff.1 h).1
theorem Five.keep (h : Five w g t x0 x1 x2 x3 x4) (hk : w'.heap[g]? = w.heap[g]?) : Five w' g t x0 x1 x2 x3 x4 := hk.trans h
theorem Five.below (h : Five w g t x0 x1 x2 x3 x4) (hb : Below w.heap.size w w') : Five w' g t x0 x1 x2 x3 x4 := h.keep (hb.block g h.lt)
theorem Five.set3 (h : Five w g t x0 x1 x2 x3 x4) (y : Value) : Five (w.setCell ⟨g, 3, none⟩ y) g t x0 x1 x2 y x4 := by
  unfold Five at h ⊢
  simp [World.setCell, Array.getElem?_modify, h]
theorem Five.set (h : Five w g t x0 x1 x2 x3 x4) (y0 y1 y2 y3 y4 : Value) : Five (((((w.setCell ⟨g, 0, none⟩ y0).setCell ⟨g, 1, none⟩ y1).setCell ⟨g, 2, none⟩ y2).setCell ⟨g, 3, none⟩ y3).setCell ⟨g, 4, none⟩ y4) g t y0 y1 y2 y3 y4 := by
  unfold Five at h ⊢
  simp [World.setCell, Array.getElem?_modify, h]
theorem below_set5 {B : Nat} {a : World} (h : Below B a w) (hg : B ≤ g) (y0 y1 y2 y3 y4 : Value) : Below B a (((((w.setCell ⟨g, 0, none⟩ y0).setCell ⟨g, 1, none⟩ y1).setCell ⟨g, 2, none⟩ y2).setCell ⟨g, 3, none⟩ y3).setCell ⟨g, 4, none⟩ y4) :=
  ((((h.setCell hg _).setCell hg _).setCell hg _).setCell hg _).setCell hg _
theorem other_set5 {b : Nat} (hb : b ≠ g) (y0 y1 y2 y3 y4 : Value) : (((((w.setCell ⟨g, 0, none⟩ y0).setCell ⟨g, 1, none⟩ y1).setCell ⟨g, 2, none⟩ y2).setCell ⟨g, 3, none⟩ y3).setCell ⟨g, 4, none⟩ y4).heap[b]? = w.heap[b]? := by
  rw [Below.heap_setCell _ _ _ _ hb, Below.heap_setCell _ _ _ _ hb, Below.heap_setCell _ _ _ _ hb, Below.heap_setCell _ _ _ _ hb, Below.heap_setCell _ _ _ _ hb]
end
theorem Five.new (w : World) (t : TypeId) (x0 x1 x2 x3 x4 : Value) : Five (w.alloc (.cells #[x0, x1, x2, x3, x4] t)) w.heap.size t x0 x1 x2 x3 x4 := heap_alloc_new w _
theorem Five.old {w : World} {g : Nat} {t : TypeId} {x0 x1 x2 x3 x4 : Value} (h : Five w g t x0 x1 x2 x3 x4) (o : Obj) : Five (w.alloc o) g t x0 x1 x2 x3 x4 := h.keep (Below.heap_alloc w o g h.lt)

/-- The block g is a struct of six cells. -/
def Six (w : World) (g : Nat) (t : TypeId) (x0 x1 x2 x3 x4 x5 : Value) : Prop := w.heap[g]? = some (.cells #[x0, x1, x2, x3, x4, x5] t (0, 0))
section
variable {w w' : World} {g : Nat} {t : TypeId} {x0 x1 x2 x3 x4 x5 : Value}
theorem Six.cells (h : Six w g t x0 x1 x2 x3 x4 x5) : w.cell? ⟨g, 0, none⟩ = some x0 ∧ w.cell? ⟨g, 1, none⟩ = some x1 ∧ w.cell? ⟨g, 2, none⟩ = some x2 ∧ w.cell? ⟨g, 3, none⟩ = some x3 ∧ w.cell? ⟨g, 4, none⟩ = some x4 ∧ w.cell? ⟨g, 5, none⟩ = some x5 := by
  unfold Six at h
  simp [World.cell?, h]
theorem Six.free (h : Six w g t x0 x1 x2 x3 x4 x5) : w.frozen? ⟨g, 0, none⟩ = false ∧ w.frozen? ⟨g, 1, none⟩ = false ∧ w.frozen? ⟨g, 2, none⟩ = false ∧ w.frozen? ⟨g, 3, none⟩ = false ∧ w.frozen? ⟨g, 4, none⟩ = false ∧ w.frozen? ⟨g, 5, none⟩ = false := by
  unfold Six at h
  simp [World.frozen?, h]
theorem Six.lt (h : Six w g t x0 x1 x2 x3 x4 x5) : g < w.heap.size := (Array.getElem?_eq_some_iff.1 h).1
theorem Six.keep (h : Six w g t x0 x1 x2 x3 x4 x5) (hk : w'.heap[g]? = w.heap[g]?) : Six w' g t x0 x1 x2 x3 x4 x5 := hk.trans h
theorem Six.set (h : Six w g t x0 x1 x2 x3 x4 x5) (y0 y1 y2 y3 y4 y5 : Value) : Six ((((((w.setCell ⟨g, 0, none⟩ y0).setCell ⟨g, 1, none⟩ y1).setCell ⟨g, 2, none⟩ y2).setCell ⟨g, 3, none⟩ y3).setCell ⟨g, 4, none⟩ y4).setCell ⟨g, 5, none⟩ y5) g t y0 y1 y2 y3 y4 y5 := by
  unfold Six at h ⊢
  simp [World.setCell, Array.getElem?_modify, h]
theorem below_set6 {B : Nat} {a : World} (h : Below B a w) (hg : B ≤ g) (y0 y1 y2 y3 y4 y5 : Value) : Below B a ((((((w.setCell ⟨g, 0, none⟩ y0).setCell ⟨g, 1, none⟩ y1).setCell ⟨g, 2, none⟩ y2).setCell ⟨g, 3, none⟩ y3).setCell ⟨g, 4, none⟩ y4).setCell ⟨g, 5, none⟩ y5) :=
  (((((h.setCell hg _).setCell hg _).setCell hg _).setCell hg _).setCell hg _).setCell hg _
theorem other_set6 {b : Nat} (hb : b ≠ g) (y0 y1 y2 y3 y4 y5 : Value) : ((((((w.setCell ⟨g, 0, none⟩ y0).setCell ⟨g, 1, none⟩ y1).setCell ⟨g, 2, none⟩ y2).setCell ⟨g, 3, none⟩ y3).setCell ⟨g, 4, none⟩ y4).setCell ⟨g, 5, none⟩ y5).heap[b]? = w.heap[b]? := by
  rw [Below.heap_setCell _ _ _ _ hb, Below.heap_setCell _ _ _ _ hb, Below.heap_setCell _ _ _ _ hb, Below.heap_setCell _ _ _ _ hb, Below.heap_setCell _ _ _ _ hb, Below.heap_setCell _ _ _ _ hb]
theorem Six.below (h : Six w g t x0 x1 x2 x3 x4 x5) (hb : Below w.heap.size w w') : Six w' g t x0 x1 x2 x3 x4 x5 := h.keep (hb.block g h.lt)
end
theorem Six.new (w : World) (t : TypeId) (x0 x1 x2 x3 x4 x5 : Value) : Six (w.alloc (.cells #[x0, x1, x2, x3, x4, x5] t)) w.heap.size t x0 x1 x2 x3 x4 x5 := heap_alloc_new w _

end Go.Proofs.Ytkpneckgpolaoaa
