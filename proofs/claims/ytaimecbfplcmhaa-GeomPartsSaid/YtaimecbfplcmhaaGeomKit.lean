/-
  What every law of layer 3 needs: the small call that each of them makes first.
-/
import Derived.Test.YtaimecbfplcmhaaGeomNum
import Derived.Test.YtaimecbfplcmhaaStructs
namespace Go.Proofs.Ytaimecbfplcmhaa
open Go.RowKit Go.ChangeShapes Go.WideShapes
set_option maxRecDepth 4000

/-- Four cells of an int each, with what they hold, that may be written. -/
def Hold (w : World) (b : Nat) (x0 x1 x2 x3 : Int) : Prop := Pla w b x0 x1 x2 x3 ∧ w.frozen? ⟨b, 0, none⟩ = false ∧ w.frozen? ⟨b, 1, none⟩ = false ∧ w.frozen? ⟨b, 2, none⟩ = false ∧ w.frozen? ⟨b, 3, none⟩ = false

theorem hold_keep {w w' : World} {b : Nat} {x0 x1 x2 x3 : Int} (h : Hold w b x0 x1 x2 x3) (hb : Below w.heap.size w w') : Hold w' b x0 x1 x2 x3 :=
  ⟨pla_keep h.1 hb, frozen_stays hb h.1.1 h.2.1, frozen_stays hb h.1.2.1 h.2.2.1, frozen_stays hb h.1.2.2.1 h.2.2.2.1, frozen_stays hb h.1.2.2.2 h.2.2.2.2⟩

theorem hold_new (w : World) (B : Nat) (hB : w.heap.size = B) (ty : TypeId) (x0 x1 x2 x3 : Int) : Hold (w.alloc (.cells #[.int .i64 x0, .int .i64 x1, .int .i64 x2, .int .i64 x3] ty)) B x0 x1 x2 x3 := by
  refine ⟨pla_new w B hB ty x0 x1 x2 x3, ?_⟩
  subst hB
  exact ⟨World.frozen?_alloc_at _ _ _ _ rfl, World.frozen?_alloc_at _ _ _ _ rfl, World.frozen?_alloc_at _ _ _ _ rfl, World.frozen?_alloc_at _ _ _ _ rfl⟩

theorem pla_other {w : World} {b b' : Nat} {x0 x1 x2 x3 : Int} (hne : b ≠ b') (h : Pla w b' x0 x1 x2 x3) (u k g t : Int) :
    Pla ((((w.setCell ⟨b, 0, none⟩ (.int .i64 u)).setCell ⟨b, 1, none⟩ (.int .i64 k)).setCell ⟨b, 2, none⟩ (.int .i64 g)).setCell ⟨b, 3, none⟩ (.int .i64 t)) b' x0 x1 x2 x3 := by
  have one : ∀ (i j : Nat) (w : World) (v : Value), (w.setCell ⟨b, i, none⟩ v).cell? ⟨b', j, none⟩ = w.cell? ⟨b', j, none⟩ := fun i j w v => World.cell?_setCell_other w _ _ v (fun e => hne (by cases e; rfl))
  simpa [Pla, one] using h

theorem awake_any (w : World) :
    Calls Try.prog 10 #[] w fun e w' => e = .returned (.bool true) ∧ Below w.heap.size w w' := by
  have hz : Geom.Sizes 2 1 3 4 2 2 4 16 48 := Geom.sizes (by decide)
  have HO := Lib.hid (of_in hz 5 (by decide) (by decide))
  clear hz
  go_enter Try.func10, Try.ntmps10
  go_wp2_with fail
  refine (HO.out _).mono ?_
  rintro e w2 ⟨rfl, hb⟩
  have HB := Lib.hid (hb.alloc hb.size (.cells #[.int .i64 0, .int .i64 0, .int .i64 1, .int .i64 1] 28))
  clear hb
  go_wp2
  go_ret
  exact ⟨rfl, HB.out⟩

end Go.Proofs.Ytaimecbfplcmhaa
