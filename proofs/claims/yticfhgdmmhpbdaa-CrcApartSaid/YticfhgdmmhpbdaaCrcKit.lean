/-
  What every law of layer 1 needs: the small call that each of them makes first; an argument that is a slice of bytes, opened.
-/
import Derived.Test.YticfhgdmmhpbdaaCrcRef
import Derived.Test.YticfhgdmmhpbdaaLawKit
import Derived.Lib.SlBytesConst
namespace Go.Proofs.Yticfhgdmmhpbdaa
open Go.RowKit Go.ChangeShapes Go.WideShapes

theorem nine_sum : addI 0 [49, 50, 51, 52, 53, 54, 55, 56, 57] = 3421780262 := by decide +kernel

set_option maxHeartbeats 400000 in
theorem awake_any (w : World) :
    Calls Try.prog 10 #[] w fun e w' => e = .returned (.bool true) ∧ Below w.heap.size w w' := by
  have kc := fun (w : World) (C : Array Value) (n c : Nat) => Lib.run_convert_bytes_const (P := Try.prog) w 22 5 C n c Try.underlying22 Try.underlying5
  go_enter Try.func10, Try.ntmps10
  go_wp2_with fail
  clear kc
  refine (sum_any _ _ _ (w.heap.size + 1) [49, 50, 51, 52, 53, 54, 55, 56, 57] _ (by decide) (bytes_new w _ _ _ _ rfl)).mono ?_
  rintro e w' ⟨rfl, rfl⟩
  rw [nine_sum]
  go_wp2
  go_ret
  exact ⟨rfl, (Below.refl _ _).alloc (Nat.le_refl _) _⟩

end Go.Proofs.Yticfhgdmmhpbdaa
