/-
  What the laws of layer 5 that lay bytes behind one another need.
-/
import Derived.Test.YtmngleepfcndgaaOobKit
namespace Go.Proofs.Ytmngleepfcndgaa.OobPkg
open Go.RowKit Go.ChangeShapes Go.WideShapes
set_option maxRecDepth 4000

theorem Unpack_full (A A2 : Option Addr) (c c2 : Nat) (k l s : Int) (d : List UInt8) (w : World) (hok : Oob.Ok k l s) (hr : Bytes w w.heap.size A 17 (Oob.full k l s d)) (hr2 : Bytes w w.heap.size A2 16 d) :
    Calls Try.prog 15 #[.slice A 17 c, .slice A2 16 c2] w fun e w' => e = .returned (.tuple #[oob k l s, .int .i64 0]) ∧ Below w.heap.size w w' := by
  have h := Unpack_any A A2 17 c 16 c2 _ d w hr hr2
  rw [Oob.unp_full hok hr2.1] at h
  exact h

theorem Unpack_err {A A2 : Option Addr} {n c m c2 : Nat} {b d : List UInt8} {w : World} (hr : Bytes w w.heap.size A n b) (hr2 : Bytes w w.heap.size A2 m d) {z : Int} (h : Oob.unp b d = (0, 0, 0, z)) :
    Calls Try.prog 15 #[.slice A n c, .slice A2 m c2] w fun e w' => e = .returned (.tuple #[oob 0 0 0, .int .i64 z]) ∧ Below w.heap.size w w' := by
  have h2 := Unpack_any A A2 n c m c2 b d w hr hr2
  rw [h] at h2
  exact h2

theorem unp_long {b d : List UInt8} (h : b.length ≠ 17 ∨ d.length ≠ 16) : Oob.unp b d = (0, 0, 0, 3) := Oob.unp_form (fun h2 => by omega)

end Go.Proofs.Ytmngleepfcndgaa.OobPkg
