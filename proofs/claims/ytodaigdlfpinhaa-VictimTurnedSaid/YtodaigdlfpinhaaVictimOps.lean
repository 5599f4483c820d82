/-
  Arguments of layer 13's laws, opened: a slice of lines, each line's five cells; a line.
-/
import Derived.Test.YtodaigdlfpinhaaVictimMem
import Derived.Test.YtodaigdlfpinhaaChecked
import Derived.OpenShut
import Derived.Deep.Slices
import Derived.Deep.Fields
namespace Go.Proofs.Ytodaigdlfpinhaa.VictimOps
open Go.RowKit Go.ChangeShapes Go.WideShapes Go.Deep Victim VictimPkg
set_option maxRecDepth 4000

theorem fieldsLine : ∃ fs : Array Field, Try.prog.underlying 33 = some (.struct fs) ∧ fs.map (fun f => (f.type, f.offset)) = #[(3, 0), (3, 1), (3, 2), (3, 3), (3, 4)] := ⟨_, Try.underlying33, by kernel_rfl⟩
theorem one3 : Try.prog.cellsOf 3 = 1 := by kernel_rfl
theorem five : Try.prog.cellsOf 33 = 5 := by kernel_rfl

section
variable {H : Type} {enc : TypeId × Value → H}

theorem field_of {W : World} {t : TypeId} {fuel : Nat} {cs : List Value} {x : DataW H × List MemPlace} {fs : Array Field} (hfs : Try.prog.underlying t = some (.struct fs)) (L : Array (TypeId × Nat)) (hmap : fs.map (fun f => (f.type, f.offset)) = L)
    (h : DataW.trod enc Try.prog W 0 (fun _ => true) true fuel t cs = some x) : cs.length = Try.prog.cellsOf t ∧ ∃ m, ∀ (i : Nat) (ty : TypeId) (off : Nat), L[i]? = some (ty, off) → ∃ y, DataW.trod enc Try.prog W 0 (fun _ => true) true m ty ((cs.drop off).take (Try.prog.cellsOf ty)) = some y := by
  obtain ⟨ys, m, _, _, hlen, hl, hx⟩ := DataW.trod_struct hfs h
  refine ⟨hlen, m, fun i ty off hi => ?_⟩
  rw [← hmap, Array.getElem?_map, Option.map_eq_some_iff] at hi
  obtain ⟨f, hf, he⟩ := hi
  injection he with h1 h2
  have h3 := hx i f hf
  have hiy : i < ys.length := by rw [hl]; exact (Array.getElem?_eq_some_iff.1 hf).1
  rw [h1, h2, List.getElem?_eq_getElem hiy] at h3
  exact ⟨_, h3⟩

theorem int_cell {W : World} {m : Nat} {v : Value} (hy : ∃ y, DataW.trod enc Try.prog W 0 (fun _ => true) true m 3 [v] = some y) : ∃ z : Int, v = .int .i64 z := by
  obtain ⟨y, hy⟩ := hy
  obtain ⟨z, hz, _, _⟩ := DataW.trod_int Try.underlying3 hy
  simp only [List.cons.injEq, and_true] at hz
  exact ⟨z, hz⟩

theorem line_cells {W : World} {fuel : Nat} {cs : List Value} {x : DataW H × List MemPlace} (h : DataW.trod enc Try.prog W 0 (fun _ => true) true fuel 33 cs = some x) :
    ∃ l : Ln, cs = lineC l := by
  obtain ⟨fs, hfs, hmap⟩ := fieldsLine
  obtain ⟨hlen, m, hfield⟩ := field_of hfs _ hmap h
  rw [five] at hlen
  match cs, hlen with
  | [a0, a1, a2, a3, a4], _ =>
    obtain ⟨x0, rfl⟩ := int_cell (v := a0) (by have := hfield 0 _ _ rfl; rw [one3] at this; exact this)
    obtain ⟨x1, rfl⟩ := int_cell (v := a1) (by have := hfield 1 _ _ rfl; rw [one3] at this; exact this)
    obtain ⟨x2, rfl⟩ := int_cell (v := a2) (by have := hfield 2 _ _ rfl; rw [one3] at this; exact this)
    obtain ⟨x3, rfl⟩ := int_cell (v := a3) (by have := hfield 3 _ _ rfl; rw [one3] at this; exact this)
    obtain ⟨x4, rfl⟩ := int_cell (v := a4) (by have := hfield 4 _ _ rfl; rw [one3] at this; exact this)
    exact ⟨⟨x0, x1, x2, x3, x4⟩, rfl⟩

/-- A line that came in. -/
theorem open_line {W : World} {base : Nat} {v : Value} {d : DataW H} {ps : List MemPlace} (hv : Value.okWide Try.prog W .any base 33 v) (h : DataW.Trod enc Try.prog W 0 (fun _ => true) true 33 v d ps) :
    ∃ l : Ln, v = .agg (lineC l).toArray := by
  obtain ⟨⟨l⟩, rfl, _⟩ := okWide_struct Try.underlying33 hv
  obtain ⟨fuel, hf⟩ := h
  have hcells : (Value.agg l.toArray).cells.toList = l := by simp [Value.cells]
  rw [hcells] at hf
  obtain ⟨x, rfl⟩ := line_cells hf
  exact ⟨x, rfl⟩

/-- A slice of lines that came in. -/
theorem open_lines {W : World} {base : Nat} {v : Value} {d : DataW H} {ps : List MemPlace} (hv : Value.okWide Try.prog W .any base 22 v) (h : DataW.Trod enc Try.prog W 0 (fun _ => true) true 22 v d ps) :
    ∃ A n c f, v = .slice A n c ∧ n ≤ c ∧ c ≤ maxLen ∧ Lines W W.heap.size A n f := by
  obtain ⟨a0, len, cap, rfl⟩ := okWide_slice Try.underlying22 hv
  obtain ⟨fuel, hf⟩ := h
  rcases open_slice Try.underlying22 hf with ⟨hcs, _⟩ | ⟨a, len', cap', m, n, D, Pl, hcs, _, hl, hm, hmm, _, hx⟩
  · simp [Value.cells] at hcs
    obtain ⟨rfl, rfl, rfl⟩ := hcs
    exact ⟨_, _, _, fun _ => ⟨0, 0, 0, 0, 0⟩, rfl, Nat.le_refl _, Nat.zero_le _, fun i hi => absurd hi (by omega)⟩
  · simp [Value.cells] at hcs
    obtain ⟨rfl, rfl, rfl⟩ := hcs
    simp only [if_true] at hmm
    obtain ⟨b, off, spot⟩ := a
    have H1 : ∀ i, i < len → ∃ l : Ln, spot = none ∧ b < W.heap.size ∧ LineAt W b (off + i * 5) l := fun i hi => by
      obtain ⟨cs, hc, hr⟩ := hx i (by omega)
      rw [five] at hc
      obtain ⟨_, hlen, hcell⟩ := World.cells?_some hc
      obtain ⟨x, rfl⟩ := line_cells hr
      have hspot : spot = none := by
        obtain ⟨cs0, hc0, hr0⟩ := hx 0 (by omega)
        rw [five] at hc0
        obtain ⟨_, hl0, hcell0⟩ := World.cells?_some hc0
        have h0 := hcell0 0 (by omega)
        rw [List.getElem?_eq_getElem (by omega)] at h0
        have := World.cell?_spot h0
        simpa [Addr.add] using this
      subst hspot
      have hk : ∀ q v, q < 5 → (lineC x)[q]? = some v → W.cell? ⟨b, off + i * 5 + q, none⟩ = some v := fun q v hq hv => by
        have := hcell q hq
        rw [add_plain, add_plain] at this
        rw [this]
        exact hv
      have c0 := hk 0 _ (by omega) rfl
      rw [Nat.add_zero] at c0
      exact ⟨x, rfl, cell_lt c0, c0, hk 1 _ (by omega) rfl, hk 2 _ (by omega) rfl, hk 3 _ (by omega) rfl, hk 4 _ (by omega) rfl⟩
    refine ⟨_, _, _, fun i => if h : i < len then (H1 i h).choose else ⟨0, 0, 0, 0, 0⟩, rfl, hl, hm, fun i hi => ?_⟩
    obtain ⟨h1, h2, h3⟩ := (H1 i hi).choose_spec
    subst h1
    refine ⟨b, off, rfl, h2, ?_⟩
    show LineAt W b (off + i * 5) (if h : i < len then (H1 i h).choose else ⟨0, 0, 0, 0, 0⟩)
    rw [dif_pos hi]
    exact h3
end

end Go.Proofs.Ytodaigdlfpinhaa.VictimOps
