/-
  A parameter that is a struct of ints: what it looks like when the call begins. Nothing of the program's code is named here.
-/
import Derived.Test.YteonjdigcecceaaLawKit
namespace Go.Proofs.Yteonjdigcecceaa
open Go.RowKit Go.ChangeShapes Go.WideShapes

/-- Every field is an int, one cell each, in a row. -/
def intFields (P : Program) (fs : Array Field) : Bool := (List.range fs.size).all fun i => match fs[i]? with
  | some f => decide (f.offset = i) && decide (P.cellsOf f.type = 1) && (match P.underlying f.type with | some (.int .i64) => true | _ => false)
  | none => false

theorem intFields_at {P : Program} {fs : Array Field} (h : intFields P fs = true) {i : Nat} (hi : i < fs.size) :
    ∃ f, fs[i]? = some f ∧ f.offset = i ∧ P.cellsOf f.type = 1 ∧ P.underlying f.type = some (.int .i64) := by
  have := List.all_eq_true.1 h i (List.mem_range.2 hi)
  have he : fs[i]? = some fs[i] := Array.getElem?_eq_getElem hi
  rw [he] at this
  simp only [Bool.and_eq_true, decide_eq_true_eq] at this
  refine ⟨_, he, this.1.1, this.1.2, ?_⟩
  have h3 := this.2
  split at h3
  · assumption
  · cases h3

theorem ints_of : ∀ l : List Value, (∀ i (hi : i < l.length), ∃ z : Int, l[i] = .int .i64 z ∧ -9223372036854775808 ≤ z ∧ z ≤ 9223372036854775807) →
    ∃ zs : List Int, l = zs.map (fun z => Value.int .i64 z) ∧ ∀ z ∈ zs, -9223372036854775808 ≤ z ∧ z ≤ 9223372036854775807
  | [], _ => ⟨[], rfl, by simp⟩
  | v :: l, h => by
    obtain ⟨z, hz, hb⟩ := h 0 (by simp)
    obtain ⟨zs, hl, hzs⟩ := ints_of l (fun i hi => h (i + 1) (by simpa using hi))
    refine ⟨z :: zs, ?_, ?_⟩
    · rw [List.map_cons, ← hl]
      exact congrArg (· :: l) hz
    · intro y hy
      rcases List.mem_cons.1 hy with rfl | hy
      · exact hb
      · exact hzs y hy

section
variable {H : Type} {enc : TypeId × Value → H}
theorem open_ints_struct {P : Program} {W : World} {base : Nat} {t : TypeId} {fs : Array Field} {v : Value} {d : DataW H} {ps : List MemPlace} (ht : P.underlying t = some (.struct fs)) (hC : P.cellsOf t = fs.size) (hF : intFields P fs = true)
    (hv : Value.okWide P W .any base t v) (h : DataW.Trod enc P W 0 (fun _ => true) true t v d ps) :
    ∃ zs : List Int, zs.length = fs.size ∧ v = .agg (zs.map fun z => Value.int .i64 z).toArray ∧ ∀ z ∈ zs, -9223372036854775808 ≤ z ∧ z ≤ 9223372036854775807 := by
  obtain ⟨cs, rfl, hsz⟩ := okWide_struct ht hv
  obtain ⟨fuel, hf⟩ := h
  obtain ⟨xs, m, _, _, _, hl, hx⟩ := DataW.trod_struct ht hf
  rw [hC] at hsz
  obtain ⟨l⟩ := cs
  have hsz' : l.length = fs.size := hsz
  have hat : ∀ i (hi : i < l.length), ∃ z : Int, l[i] = .int .i64 z ∧ -9223372036854775808 ≤ z ∧ z ≤ 9223372036854775807 := by
    intro i hi
    obtain ⟨f, hfi, ho, hc, hu⟩ := intFields_at hF (show i < fs.size by omega)
    have h1 := hx i f hfi
    have hxi : xs[i]? = some (xs[i]'(by omega)) := List.getElem?_eq_getElem (by omega)
    rw [ho, hc, hxi] at h1
    obtain ⟨z, hz, _, hw⟩ := DataW.trod_int hu h1
    have hcells : (Value.agg l.toArray).cells.toList = l := by simp [Value.cells]
    have hone : (l.drop i).take 1 = [l[i]] := by rw [List.drop_eq_getElem_cons hi]; rfl
    rw [hcells, hone] at hz
    simp only [List.cons.injEq, and_true] at hz
    exact ⟨z, hz, by simpa [Lit.wf, IntKind.min, IntKind.max, IntKind.signed, IntKind.bits] using hw⟩
  obtain ⟨zs, rfl, hz⟩ := ints_of l hat
  exact ⟨zs, by simpa using hsz', rfl, hz⟩

theorem open_geo {P : Program} {W : World} {base : Nat} {t : TypeId} {fs : Array Field} {v : Value} {d : DataW H} {ps : List MemPlace} (ht : P.underlying t = some (.struct fs)) (h5 : fs.size = 5) (hC : P.cellsOf t = fs.size) (hF : intFields P fs = true)
    (hv : Value.okWide P W .any base t v) (h : DataW.Trod enc P W 0 (fun _ => true) true t v d ps) :
    ∃ c l k p s : Int, v = .agg #[.int .i64 c, .int .i64 l, .int .i64 k, .int .i64 p, .int .i64 s] := by
  obtain ⟨zs, hl, rfl, _⟩ := open_ints_struct ht hC hF hv h
  rw [h5] at hl
  match zs, hl with
  | [c, l, k, p, s], _ => exact ⟨c, l, k, p, s, rfl⟩

theorem open_place {P : Program} {W : World} {base : Nat} {t : TypeId} {fs : Array Field} {v : Value} {d : DataW H} {ps : List MemPlace} (ht : P.underlying t = some (.struct fs)) (h4 : fs.size = 4) (hC : P.cellsOf t = fs.size) (hF : intFields P fs = true)
    (hv : Value.okWide P W .any base t v) (h : DataW.Trod enc P W 0 (fun _ => true) true t v d ps) :
    ∃ u b g t : Int, v = .agg #[.int .i64 u, .int .i64 b, .int .i64 g, .int .i64 t] := by
  obtain ⟨zs, hl, rfl, _⟩ := open_ints_struct ht hC hF hv h
  rw [h4] at hl
  match zs, hl with
  | [u, b, g, t], _ => exact ⟨u, b, g, t, rfl⟩
theorem open_oob {P : Program} {W : World} {base : Nat} {t : TypeId} {fs : Array Field} {v : Value} {d : DataW H} {ps : List MemPlace} (ht : P.underlying t = some (.struct fs)) (h3 : fs.size = 3) (hC : P.cellsOf t = fs.size) (hF : intFields P fs = true)
    (hv : Value.okWide P W .any base t v) (h : DataW.Trod enc P W 0 (fun _ => true) true t v d ps) :
    ∃ k l s : Int, v = .agg #[.int .i64 k, .int .i64 l, .int .i64 s] := by
  obtain ⟨zs, hl, rfl, _⟩ := open_ints_struct ht hC hF hv h
  rw [h3] at hl
  match zs, hl with
  | [k, l, s], _ => exact ⟨k, l, s, rfl⟩

end
end Go.Proofs.Yteonjdigcecceaa
