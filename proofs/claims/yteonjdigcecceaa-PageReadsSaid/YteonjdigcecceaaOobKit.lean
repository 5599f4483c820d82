/-
  What every law of layer 5 needs: the small call that each of them makes first.
-/
import Derived.Test.YteonjdigcecceaaOobUnpack
import Derived.Test.YteonjdigcecceaaLawKit
import Derived.Test.YteonjdigcecceaaStructs
namespace Go.Proofs.Yteonjdigcecceaa.OobPkg
open Go.RowKit Go.ChangeShapes Go.WideShapes
set_option maxRecDepth 4000

theorem Bytes.cellAt {w : World} {B : Nat} {A : Option Addr} {n : Nat} {xs : List UInt8} (h : Bytes w B A n xs) {b off : Nat} (hA : A = some ⟨b, off, none⟩) {k : Nat} {x : UInt8} (hx : xs[k]? = some x) : w.cell? ⟨b, off + k, none⟩ = some (.int .u8 (x.toNat : Int)) := by
  obtain ⟨hl, rfl⟩ := List.getElem?_eq_some_iff.1 hx
  obtain ⟨b2, off2, e, _, hc⟩ := h.2 k hl
  rw [hA] at e
  injection e with e
  injection e with e1 e2
  subst e1 e2
  exact hc

theorem Tri.c0 {w : World} {g : Nat} {k l s : Int} (h : Tri w g k l s) : w.cell? ⟨g, 0, none⟩ = some (.int .i64 k) := by simp [World.cell?, show w.heap[g]? = _ from h]
theorem Tri.c1 {w : World} {g : Nat} {k l s : Int} (h : Tri w g k l s) : w.cell? ⟨g, 1, none⟩ = some (.int .i64 l) := by simp [World.cell?, show w.heap[g]? = _ from h]
theorem Tri.c2 {w : World} {g : Nat} {k l s : Int} (h : Tri w g k l s) : w.cell? ⟨g, 2, none⟩ = some (.int .i64 s) := by simp [World.cell?, show w.heap[g]? = _ from h]
theorem Tri.old {w : World} {g : Nat} {k l s : Int} (h : Tri w g k l s) (o : Obj) : Tri (w.alloc o) g k l s := h.keep ((Below.refl _ _).alloc (Nat.le_refl _) _)
theorem Tri.newAt {w : World} {g : Nat} (hg : w.heap.size = g) (k l s : Int) : Tri (w.alloc (.cells #[.int .i64 k, .int .i64 l, .int .i64 s] 44)) g k l s := by rw [← hg]; exact Tri.new w k l s

end Go.Proofs.Yteonjdigcecceaa.OobPkg
