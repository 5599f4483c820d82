/-
  What every law of layer 6 needs: the small call that each of them makes first.
-/
import Derived.Test.YteonjdigcecceaaMarkRead
import Derived.Test.YteonjdigcecceaaLawKit
import Derived.Test.YteonjdigcecceaaStructs
namespace Go.Proofs.Yteonjdigcecceaa.MarkPkg
open Go.RowKit Go.ChangeShapes Go.WideShapes Go.Proofs.Yteonjdigcecceaa.OobPkg
set_option maxRecDepth 4000

theorem bytes_cell {w : World} {B : Nat} {A : Option Addr} {n : Nat} {xs : List UInt8} (h : Bytes w B A n xs) {b off : Nat} (hA : A = some ⟨b, off, none⟩) {k : Nat} {x : UInt8} (hx : xs[k]? = some x) : w.cell? ⟨b, off + k, none⟩ = some (.int .u8 (x.toNat : Int)) := by
  obtain ⟨hl, rfl⟩ := List.getElem?_eq_some_iff.1 hx
  obtain ⟨b2, off2, e, _, hc⟩ := h.2 k hl
  rw [hA] at e
  injection e with e
  injection e with e1 e2
  subst e1 e2
  exact hc

theorem str_neq (xs : List UInt8) : ((str xs).toList != (str xs).toList) = false := by simp

end Go.Proofs.Yteonjdigcecceaa.MarkPkg
