/-
  Arguments of layer 12's laws, opened: a slice of ops, each op's three cells; a setting, two slices of ints.
-/
import Derived.Test.YtnnonkmkdjhacaaNums
import Derived.Test.YtnnonkmkdjhacaaChecked
import Derived.OpenShut
import Derived.Deep.Slices
import Derived.Deep.Fields
namespace Go.Proofs.Ytnnonkmkdjhacaa.LinesOps
open Go.RowKit Go.ChangeShapes Go.WideShapes Go.Deep
set_option maxRecDepth 4000

/-- An op's three cells: what to do, the line, whether the open one is meant. -/
structure OpAt (w : World) (B : Nat) (b o : Nat) (x0 x1 : Int) (own : Bool) : Prop where
  c0 : w.cell? ⟨b, o, none⟩ = some (.int .i64 x0)
  c1 : w.cell? ⟨b, o + 1, none⟩ = some (.int .i64 x1)
  c2 : w.cell? ⟨b, o + 2, none⟩ = some (.bool own)
  lt : b < B

/-- A slice of ops that came in. -/
def Ops (w : World) (B : Nat) (A : Option Addr) (n : Nat) : Prop :=
  ∀ i, i < n → ∃ b off x0 x1 own, A = some ⟨b, off, none⟩ ∧ OpAt w B b (off + i * 3) x0 x1 own

theorem OpAt.keep {w w' : World} {B b o : Nat} {x0 x1 : Int} {own : Bool} (h : OpAt w B b o x0 x1 own) (hk : Below B w w') : OpAt w' B b o x0 x1 own := by
  have hb : ∀ i v, w.cell? ⟨b, i, none⟩ = some v → w'.cell? ⟨b, i, none⟩ = some v := fun i v hv => (World.cell?_of_block (w := w) (hk.block b h.lt)).trans hv
  exact ⟨hb _ _ h.c0, hb _ _ h.c1, hb _ _ h.c2, h.lt⟩

theorem Ops.keep {w w' : World} {B : Nat} {A : Option Addr} {n : Nat} (h : Ops w B A n) (hk : Below B w w') : Ops w' B A n := fun i hi => by
  obtain ⟨b, off, x0, x1, own, e, ho⟩ := h i hi
  exact ⟨b, off, x0, x1, own, e, ho.keep hk⟩

theorem fieldsOp : ∃ fs : Array Field, Try.prog.underlying 40 = some (.struct fs) ∧ fs.map (fun f => (f.type, f.offset)) = #[(3, 0), (3, 1), (4, 2)] := ⟨_, Try.underlying40, by kernel_rfl⟩
theorem fieldsSet : ∃ fs : Array Field, Try.prog.underlying 36 = some (.struct fs) ∧ fs.map (fun f => (f.type, f.offset)) = #[(24, 0), (24, 1)] := ⟨_, Try.underlying36, by kernel_rfl⟩

theorem one3 : Try.prog.cellsOf 3 = 1 := by kernel_rfl
theorem one4 : Try.prog.cellsOf 4 = 1 := by kernel_rfl
theorem one24 : Try.prog.cellsOf 24 = 1 := by kernel_rfl
theorem three : Try.prog.cellsOf 40 = 3 := by kernel_rfl
theorem two : Try.prog.cellsOf 36 = 2 := by kernel_rfl

section
variable {H : Type} {enc : TypeId × Value → H}

theorem field_of {W : World} {t : TypeId} {fuel : Nat} {cs : List Value} {x : DataW H × List MemPlace} {fs : Array Field} (hfs : Try.prog.underlying t = some (.struct fs)) (L : Array (TypeId × Nat)) (hmap : fs.map (fun f => (f.type, f.offset)) = L)
    (h : DataW.trod enc Try.prog W 0 (fun _ => true) true fuel t cs = some x) : cs.length = Try.prog.cellsOf t ∧ ∃ m, ∀ (i : Nat) (ty : TypeId) (off : Nat), L[i]? = some (ty, off) → ∃ y, DataW.trod enc Try.prog W 0 (fun _ => true) true m ty ((cs.drop off).take (Try.prog.cellsOf ty)) = some y := by
  obtain ⟨ys, m, _, _, hlen, hl, hx⟩ := DataW.trod_struct hfs h
  refine ⟨hlen, m, fun i ty off hi => ?_⟩
  rw [← hmap, Array.getElem?_map, Option.map_eq_some_iff] at hi
  obtain ⟨f, hf, he⟩ := hi
  injection he with h1 h2
  have h3 := hx i f hf
  have hiy : i < ys.length := by rw [hl]; exact (Array.getElem?_eq_some_iff.1 hf).1
  rw [h1, h2, List.getElem?_eq_getElem hiy] at h3
  exact ⟨_, h3⟩

theorem int_cell {W : World} {m : Nat} {v : Value} (hy : ∃ y, DataW.trod enc Try.prog W 0 (fun _ => true) true m 3 [v] = some y) : ∃ z : Int, v = .int .i64 z := by
  obtain ⟨y, hy⟩ := hy
  obtain ⟨z, hz, _, _⟩ := DataW.trod_int Try.underlying3 hy
  simp only [List.cons.injEq, and_true] at hz
  exact ⟨z, hz⟩

/-- A slice of ints by its cell. -/
theorem nums_cell {W : World} {m : Nat} {V : Value} (hy : ∃ y, DataW.trod enc Try.prog W 0 (fun _ => true) true m 24 [V] = some y) : ∃ A n c zs, V = .slice A n c ∧ n ≤ c ∧ c ≤ maxLen ∧ Nums W W.heap.size A n zs := by
  obtain ⟨y, hf⟩ := hy
  rcases open_ints Try.underlying24 Try.underlying3 one3 hf with ⟨hcs, _⟩ | ⟨a, len, cap, zs, hcs, _, hl, hm, hz, _, hcell, hwz⟩
  · simp only [List.cons.injEq, and_true] at hcs
    exact ⟨none, 0, 0, [], hcs, Nat.le_refl _, Nat.zero_le _, rfl, fun i hi => absurd hi (by simp)⟩
  · simp only [List.cons.injEq, and_true] at hcs
    subst hcs
    simp only [if_true] at hz
    refine ⟨_, _, _, zs.take len, rfl, hl, hm, by simp; omega, fun i hi => ?_⟩
    simp only [List.length_take] at hi
    have hi2 : i < zs.length := by omega
    have hci := hcell i hi2
    obtain ⟨b, off, spot⟩ := a
    have hspot : spot = none := by simpa [Addr.add] using World.cell?_spot (hcell 0 (by omega))
    subst hspot
    rw [add_plain] at hci
    have hw := hwz zs[i] (List.getElem_mem hi2)
    have hbd : -9223372036854775808 ≤ zs[i] ∧ zs[i] ≤ 9223372036854775807 := by simpa [Lit.wf, IntKind.min, IntKind.max, IntKind.signed, IntKind.bits] using hw
    have hg : zs.getD i 0 = zs[i] := by simp [List.getD, hi2]
    simp only [List.getElem_take]
    exact ⟨hbd.1, hbd.2, b, off, rfl, cell_lt hci, by rw [hci, hg]⟩

theorem op_cells {W : World} {fuel : Nat} {cs : List Value} {x : DataW H × List MemPlace} (h : DataW.trod enc Try.prog W 0 (fun _ => true) true fuel 40 cs = some x) :
    ∃ (x0 x1 : Int) (own : Bool), cs = [.int .i64 x0, .int .i64 x1, .bool own] := by
  obtain ⟨fs, hfs, hmap⟩ := fieldsOp
  obtain ⟨hlen, m, hfield⟩ := field_of hfs _ hmap h
  rw [three] at hlen
  match cs, hlen with
  | [a0, a1, a2], _ =>
    obtain ⟨x0, rfl⟩ := int_cell (v := a0) (by have := hfield 0 _ _ rfl; rw [one3] at this; exact this)
    obtain ⟨x1, rfl⟩ := int_cell (v := a1) (by have := hfield 1 _ _ rfl; rw [one3] at this; exact this)
    obtain ⟨y2, h2⟩ := hfield 2 _ _ rfl
    rw [one4] at h2
    obtain ⟨own, ho, _⟩ := DataW.trod_bool Try.underlying4 h2
    have ho' : a2 = .bool own := by simpa using ho
    subst ho'
    exact ⟨x0, x1, own, rfl⟩

theorem open_ops {W : World} {base : Nat} {v : Value} {d : DataW H} {ps : List MemPlace} (hv : Value.okWide Try.prog W .any base 37 v) (h : DataW.Trod enc Try.prog W 0 (fun _ => true) true 37 v d ps) :
    ∃ A n c, v = .slice A n c ∧ n ≤ c ∧ c ≤ maxLen ∧ Ops W W.heap.size A n := by
  obtain ⟨a0, len, cap, rfl⟩ := okWide_slice Try.underlying37 hv
  obtain ⟨fuel, hf⟩ := h
  rcases open_slice Try.underlying37 hf with ⟨hcs, _⟩ | ⟨a, len', cap', m, n, D, Pl, hcs, _, hl, hm, hmm, _, hx⟩
  · simp [Value.cells] at hcs
    obtain ⟨rfl, rfl, rfl⟩ := hcs
    exact ⟨_, _, _, rfl, Nat.le_refl _, Nat.zero_le _, fun i hi => absurd hi (by omega)⟩
  · simp [Value.cells] at hcs
    obtain ⟨rfl, rfl, rfl⟩ := hcs
    simp only [if_true] at hmm
    refine ⟨_, _, _, rfl, hl, hm, fun i hi => ?_⟩
    obtain ⟨cs, hc, hr⟩ := hx i (by omega)
    rw [three] at hc
    obtain ⟨_, hlen, hcell⟩ := World.cells?_some hc
    obtain ⟨x0, x1, own, rfl⟩ := op_cells hr
    obtain ⟨b, off, spot⟩ := a
    have hspot : spot = none := by
      obtain ⟨cs0, hc0, _⟩ := hx 0 (by omega)
      rw [three] at hc0
      obtain ⟨_, hl0, hcell0⟩ := World.cells?_some hc0
      have h0 := hcell0 0 (by omega)
      rw [List.getElem?_eq_getElem (by omega)] at h0
      have := World.cell?_spot h0
      simpa [Addr.add] using this
    subst hspot
    have hk : ∀ q v, q < 3 → ([.int .i64 x0, .int .i64 x1, .bool own] : List Value)[q]? = some v → W.cell? ⟨b, off + i * 3 + q, none⟩ = some v := fun q v hq hv => by
      have := hcell q hq
      rw [add_plain, add_plain] at this
      rw [this]
      exact hv
    have c0 := hk 0 _ (by omega) rfl
    rw [Nat.add_zero] at c0
    exact ⟨b, off, x0, x1, own, rfl, c0, hk 1 _ (by omega) rfl, hk 2 _ (by omega) rfl, cell_lt c0⟩

theorem open_setting {W : World} {base : Nat} {v : Value} {d : DataW H} {ps : List MemPlace} (hv : Value.okWide Try.prog W .any base 36 v) (h : DataW.Trod enc Try.prog W 0 (fun _ => true) true 36 v d ps) :
    ∃ A1 n1 c1 zs1 A2 n2 c2 zs2, v = .agg #[.slice A1 n1 c1, .slice A2 n2 c2] ∧ (n1 ≤ c1 ∧ c1 ≤ maxLen ∧ Nums W W.heap.size A1 n1 zs1) ∧ (n2 ≤ c2 ∧ c2 ≤ maxLen ∧ Nums W W.heap.size A2 n2 zs2) := by
  obtain ⟨⟨l⟩, rfl, _⟩ := okWide_struct Try.underlying36 hv
  obtain ⟨fuel, hf⟩ := h
  have hcells : (Value.agg l.toArray).cells.toList = l := by simp [Value.cells]
  rw [hcells] at hf
  obtain ⟨fs, hfs, hmap⟩ := fieldsSet
  obtain ⟨hlen, m, hfield⟩ := field_of hfs _ hmap hf
  rw [two] at hlen
  match l, hlen with
  | [a0, a1], _ =>
    obtain ⟨A1, n1, c1, zs1, e1, h1⟩ := nums_cell (V := a0) (by have := hfield 0 _ _ rfl; rw [one24] at this; exact this)
    obtain ⟨A2, n2, c2, zs2, e2, h2⟩ := nums_cell (V := a1) (by have := hfield 1 _ _ rfl; rw [one24] at this; exact this)
    subst e1 e2
    exact ⟨A1, n1, c1, zs1, A2, n2, c2, zs2, rfl, h1, h2⟩
end

end Go.Proofs.Ytnnonkmkdjhacaa.LinesOps
