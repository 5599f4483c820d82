/-
  What each function of package geom does, the third part: the place of an address.
-/
import Derived.Test.YtnnonkmkdjhacaaGeomNumber
namespace Go.Proofs.Ytnnonkmkdjhacaa
open Go.RowKit
set_option maxRecDepth 4000

theorem frozen_stays {w w' : World} {a : Addr} {v : Value} (hb : Below w.heap.size w w') (h : w.cell? a = some v) (hf : w.frozen? a = false) : w'.frozen? a = false :=
  (hb.frozen (World.block_lt_of_cell? w a h)).trans hf

/-- Four cells of an int each that may be written. -/
def Room (w : World) (b : Nat) : Prop := Pla w b 0 0 0 0 ∧ w.frozen? ⟨b, 0, none⟩ = false ∧ w.frozen? ⟨b, 1, none⟩ = false ∧ w.frozen? ⟨b, 2, none⟩ = false ∧ w.frozen? ⟨b, 3, none⟩ = false

theorem room_keep {w w' : World} {b : Nat} (h : Room w b) (hb : Below w.heap.size w w') : Room w' b :=
  ⟨pla_keep h.1 hb, frozen_stays hb h.1.1 h.2.1, frozen_stays hb h.1.2.1 h.2.2.1, frozen_stays hb h.1.2.2.1 h.2.2.2.1, frozen_stays hb h.1.2.2.2 h.2.2.2.2⟩

theorem room_new (w : World) (B : Nat) (hB : w.heap.size = B) (ty : TypeId) : Room (w.alloc (.cells #[.int .i64 0, .int .i64 0, .int .i64 0, .int .i64 0] ty)) B := by
  refine ⟨pla_new w B hB ty 0 0 0 0, ?_⟩
  subst hB
  exact ⟨World.frozen?_alloc_at _ _ _ _ rfl, World.frozen?_alloc_at _ _ _ _ rfl, World.frozen?_alloc_at _ _ _ _ rfl, World.frozen?_alloc_at _ _ _ _ rfl⟩

theorem pla_set {w : World} {b : Nat} {x0 x1 x2 x3 : Int} (h : Pla w b x0 x1 x2 x3) (u k g t : Int) :
    Pla ((((w.setCell ⟨b, 0, none⟩ (.int .i64 u)).setCell ⟨b, 1, none⟩ (.int .i64 k)).setCell ⟨b, 2, none⟩ (.int .i64 g)).setCell ⟨b, 3, none⟩ (.int .i64 t)) b u k g t := by
  obtain ⟨h0, h1, h2, h3⟩ := h
  refine ⟨?_, ?_, ?_, ?_⟩
  · rw [World.cell?_setCell_other _ _ _ _ (by simp), World.cell?_setCell_other _ _ _ _ (by simp), World.cell?_setCell_other _ _ _ _ (by simp), World.cell?_setCell_same _ _ _ h0]
  · rw [World.cell?_setCell_other _ _ _ _ (by simp), World.cell?_setCell_other _ _ _ _ (by simp)]
    exact World.cell?_setCell_same _ _ _ ((World.cell?_setCell_other _ _ _ _ (by simp)).trans h1)
  · rw [World.cell?_setCell_other _ _ _ _ (by simp)]
    exact World.cell?_setCell_same _ _ _ ((World.cell?_setCell_other _ _ _ _ (by simp)).trans ((World.cell?_setCell_other _ _ _ _ (by simp)).trans h2))
  · exact World.cell?_setCell_same _ _ _ ((World.cell?_setCell_other _ _ _ _ (by simp)).trans ((World.cell?_setCell_other _ _ _ _ (by simp)).trans ((World.cell?_setCell_other _ _ _ _ (by simp)).trans h3)))

theorem below_set {a w : World} {b : Nat} (h : Below a.heap.size a w) (hb : a.heap.size ≤ b) (u k g t : Int) :
    Below a.heap.size a ((((w.setCell ⟨b, 0, none⟩ (.int .i64 u)).setCell ⟨b, 1, none⟩ (.int .i64 k)).setCell ⟨b, 2, none⟩ (.int .i64 g)).setCell ⟨b, 3, none⟩ (.int .i64 t)) :=
  (((h.setCell (p := ⟨b, 0, none⟩) hb _).setCell (p := ⟨b, 1, none⟩) hb _).setCell (p := ⟨b, 2, none⟩) hb _).setCell (p := ⟨b, 3, none⟩) hb _

end Go.Proofs.Ytnnonkmkdjhacaa
