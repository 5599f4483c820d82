/-
  A parameter that is an array of ints: what it looks like when the call begins. Nothing of the program's code is named here.
-/
import Derived.Test.YteonjdigcecceaaStructs
import Derived.OpenShut
namespace Go.Proofs.Yteonjdigcecceaa
open Go.RowKit Go.ChangeShapes Go.WideShapes

section
variable {H : Type} {enc : TypeId × Value → H}
theorem open_ints_array {P : Program} {W : World} {base n : Nat} {t e : TypeId} {v : Value} {d : DataW H} {ps : List MemPlace} (ht : P.underlying t = some (.array n e)) (hC : P.cellsOf t = n) (he : P.underlying e = some (.int .i64)) (hc : P.cellsOf e = 1)
    (hv : Value.okWide P W .any base t v) (h : DataW.Trod enc P W 0 (fun _ => true) true t v d ps) :
    ∃ zs : List Int, zs.length = n ∧ v = .agg (zs.map fun z => Value.int .i64 z).toArray ∧ ∀ z ∈ zs, -9223372036854775808 ≤ z ∧ z ≤ 9223372036854775807 := by
  unfold Value.okWide at hv
  rw [ht] at hv
  obtain ⟨cs, rfl, hsz, _⟩ := hv
  obtain ⟨fuel, hf⟩ := h
  obtain ⟨xs, m, _, _, _, hl, hx⟩ := DataW.trod_array ht hf
  rw [hC] at hsz
  obtain ⟨l⟩ := cs
  have hsz' : l.length = n := hsz
  have hat : ∀ i (hi : i < l.length), ∃ z : Int, l[i] = .int .i64 z ∧ -9223372036854775808 ≤ z ∧ z ≤ 9223372036854775807 := by
    intro i hi
    have h1 := hx i (by omega)
    have hxi : xs[i]? = some (xs[i]'(by omega)) := List.getElem?_eq_getElem (by omega)
    rw [hc, Nat.mul_one, hxi] at h1
    obtain ⟨z, hz, _, hw⟩ := DataW.trod_int he h1
    have hcells : (Value.agg l.toArray).cells.toList = l := by simp [Value.cells]
    have hone : (l.drop i).take 1 = [l[i]] := by rw [List.drop_eq_getElem_cons hi]; rfl
    rw [hcells, hone] at hz
    simp only [List.cons.injEq, and_true] at hz
    exact ⟨z, hz, by simpa [Lit.wf, IntKind.min, IntKind.max, IntKind.signed, IntKind.bits] using hw⟩
  obtain ⟨zs, rfl, hz⟩ := ints_of l hat
  exact ⟨zs, by simpa using hsz', rfl, hz⟩

theorem open_ints2 {P : Program} {W : World} {base : Nat} {t e : TypeId} {v : Value} {d : DataW H} {ps : List MemPlace} (ht : P.underlying t = some (.array 2 e)) (hC : P.cellsOf t = 2) (he : P.underlying e = some (.int .i64)) (hc : P.cellsOf e = 1)
    (hv : Value.okWide P W .any base t v) (h : DataW.Trod enc P W 0 (fun _ => true) true t v d ps) :
    ∃ y z : Int, v = .agg #[.int .i64 y, .int .i64 z] ∧ (-9223372036854775808 ≤ y ∧ y ≤ 9223372036854775807) ∧ (-9223372036854775808 ≤ z ∧ z ≤ 9223372036854775807) := by
  obtain ⟨zs, hl, rfl, hb⟩ := open_ints_array ht hC he hc hv h
  match zs, hl with
  | [y, z], _ => exact ⟨y, z, rfl, hb y (by simp), hb z (by simp)⟩

theorem open_ints3 {P : Program} {W : World} {base : Nat} {t e : TypeId} {v : Value} {d : DataW H} {ps : List MemPlace} (ht : P.underlying t = some (.array 3 e)) (hC : P.cellsOf t = 3) (he : P.underlying e = some (.int .i64)) (hc : P.cellsOf e = 1)
    (hv : Value.okWide P W .any base t v) (h : DataW.Trod enc P W 0 (fun _ => true) true t v d ps) :
    ∃ y z u : Int, v = .agg #[.int .i64 y, .int .i64 z, .int .i64 u] := by
  obtain ⟨zs, hl, rfl, _⟩ := open_ints_array ht hC he hc hv h
  match zs, hl with
  | [y, z, u], _ => exact ⟨y, z, u, rfl⟩
end
end Go.Proofs.Yteonjdigcecceaa
