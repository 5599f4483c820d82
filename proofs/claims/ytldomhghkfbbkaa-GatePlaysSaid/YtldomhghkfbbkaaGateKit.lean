/-
  Beside layer 14's laws: tokens are parted (awake); arguments that are arrays of three or four ints, with their bounds; a slice of bools.
-/
import Derived.Test.YtldomhghkfbbkaaGateRef
import Derived.Test.YtldomhghkfbbkaaArrays
import Derived.Test.YtldomhghkfbbkaaLawKit
import Derived.OpenShut
namespace Go.Proofs.Ytldomhghkfbbkaa.GateLaw
open Go.RowKit Go.ChangeShapes Go.WideShapes Gate GatePkg GateRef Lib
set_option maxRecDepth 4000

theorem awake_any (w : World) : Calls Try.prog 8 #[] w fun e w' => e = .returned (.bool true) ∧ w' = w := by
  have h := Split_any 3 2 6 8 w
  have e1 : fst 3 2 6 8 = 2 := by decide
  have e2 : snd 3 2 6 8 = 6 := by decide
  rw [e1, e2] at h
  have HS := Lib.hid h
  clear h e1 e2
  go_enter Try.func8, Try.ntmps8
  go_wp2_with (refine HS.out.mono ?_; rintro e w' ⟨rfl, rfl⟩)
  go_ret
  exact ⟨rfl, rfl⟩

abbrev B64 (x : Int) : Prop := -9223372036854775808 ≤ x ∧ x ≤ 9223372036854775807

section
variable {H : Type} {enc : TypeId × Value → H}
theorem open_four {P : Program} {W : World} {base : Nat} {t e : TypeId} {v : Value} {d : DataW H} {ps : List MemPlace} (ht : P.underlying t = some (.array 4 e)) (hC : P.cellsOf t = 4) (he : P.underlying e = some (.int .i64)) (hc : P.cellsOf e = 1)
    (hv : Value.okWide P W .any base t v) (h : DataW.Trod enc P W 0 (fun _ => true) true t v d ps) :
    ∃ y z u x : Int, v = .agg #[.int .i64 y, .int .i64 z, .int .i64 u, .int .i64 x] ∧ B64 y ∧ B64 z ∧ B64 u ∧ B64 x := by
  obtain ⟨zs, hl, rfl, hb⟩ := open_ints_array ht hC he hc hv h
  match zs, hl with
  | [y, z, u, x], _ => exact ⟨y, z, u, x, rfl, hb y (by simp), hb z (by simp), hb u (by simp), hb x (by simp)⟩
theorem open_three {P : Program} {W : World} {base : Nat} {t e : TypeId} {v : Value} {d : DataW H} {ps : List MemPlace} (ht : P.underlying t = some (.array 3 e)) (hC : P.cellsOf t = 3) (he : P.underlying e = some (.int .i64)) (hc : P.cellsOf e = 1)
    (hv : Value.okWide P W .any base t v) (h : DataW.Trod enc P W 0 (fun _ => true) true t v d ps) :
    ∃ y z u : Int, v = .agg #[.int .i64 y, .int .i64 z, .int .i64 u] ∧ B64 y ∧ B64 z ∧ B64 u := by
  obtain ⟨zs, hl, rfl, hb⟩ := open_ints_array ht hC he hc hv h
  match zs, hl with
  | [y, z, u], _ => exact ⟨y, z, u, rfl, hb y (by simp), hb z (by simp), hb u (by simp)⟩
end

end Go.Proofs.Ytldomhghkfbbkaa.GateLaw
