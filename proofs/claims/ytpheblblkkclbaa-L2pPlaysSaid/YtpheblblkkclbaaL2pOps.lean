/-
  An argument that is a slice of layer 11's ops, opened: each op's seven cells; a single op.
-/
import Derived.Test.YtpheblblkkclbaaBytes
import Derived.Test.YtpheblblkkclbaaChecked
import Derived.OpenShut
import Derived.Deep.Slices
import Derived.Deep.Fields
namespace Go.Proofs.Ytpheblblkkclbaa.L2pOps
open Go.RowKit Go.ChangeShapes Go.WideShapes Go.Deep
set_option maxRecDepth 4000

/-- An op's seven cells: what to do, the sector, from, to; the entry. -/
structure OpAt (w : World) (B : Nat) (b o : Nat) (x0 x1 x2 x3 x4 x5 x6 : Int) : Prop where
  c0 : w.cell? ⟨b, o, none⟩ = some (.int .i64 x0)
  c1 : w.cell? ⟨b, o + 1, none⟩ = some (.int .i64 x1)
  c2 : w.cell? ⟨b, o + 2, none⟩ = some (.int .i64 x2)
  c3 : w.cell? ⟨b, o + 3, none⟩ = some (.int .i64 x3)
  c4 : w.cell? ⟨b, o + 4, none⟩ = some (.int .i64 x4)
  c5 : w.cell? ⟨b, o + 4 + 1, none⟩ = some (.int .i64 x5)
  c6 : w.cell? ⟨b, o + 4 + 2, none⟩ = some (.int .i64 x6)
  lt : b < B

/-- A slice of ops that came in. -/
def Ops (w : World) (B : Nat) (A : Option Addr) (n : Nat) : Prop :=
  ∀ i, i < n → ∃ b off x0 x1 x2 x3 x4 x5 x6, A = some ⟨b, off, none⟩ ∧ OpAt w B b (off + i * 7) x0 x1 x2 x3 x4 x5 x6

theorem OpAt.keep {w w' : World} {B b o : Nat} {x0 x1 x2 x3 x4 x5 x6 : Int} (h : OpAt w B b o x0 x1 x2 x3 x4 x5 x6) (hk : Below B w w') : OpAt w' B b o x0 x1 x2 x3 x4 x5 x6 := by
  have hb : ∀ i v, w.cell? ⟨b, i, none⟩ = some v → w'.cell? ⟨b, i, none⟩ = some v := fun i v hv => (World.cell?_of_block (w := w) (hk.block b h.lt)).trans hv
  exact ⟨hb _ _ h.c0, hb _ _ h.c1, hb _ _ h.c2, hb _ _ h.c3, hb _ _ h.c4, hb _ _ h.c5, hb _ _ h.c6, h.lt⟩

theorem Ops.keep {w w' : World} {B : Nat} {A : Option Addr} {n : Nat} (h : Ops w B A n) (hk : Below B w w') : Ops w' B A n := fun i hi => by
  obtain ⟨b, off, x0, x1, x2, x3, x4, x5, x6, e, ho⟩ := h i hi
  exact ⟨b, off, x0, x1, x2, x3, x4, x5, x6, e, ho.keep hk⟩

theorem fieldsOp : ∃ fs : Array Field, Try.prog.underlying 41 = some (.struct fs) ∧ fs.map (fun f => (f.type, f.offset)) = #[(3, 0), (3, 1), (3, 2), (3, 3), (30, 4)] := ⟨_, Try.underlying41, by kernel_rfl⟩
theorem fieldsEntry : ∃ fs : Array Field, Try.prog.underlying 30 = some (.struct fs) ∧ fs.map (fun f => (f.type, f.offset)) = #[(3, 0), (3, 1), (3, 2)] := ⟨_, Try.underlying30, by kernel_rfl⟩

theorem one3 : Try.prog.cellsOf 3 = 1 := by kernel_rfl
theorem three : Try.prog.cellsOf 30 = 3 := by kernel_rfl
theorem seven : Try.prog.cellsOf 41 = 7 := by kernel_rfl

section
variable {H : Type} {enc : TypeId × Value → H}

theorem field_of {W : World} {t : TypeId} {fuel : Nat} {cs : List Value} {x : DataW H × List MemPlace} {fs : Array Field} (hfs : Try.prog.underlying t = some (.struct fs)) (L : Array (TypeId × Nat)) (hmap : fs.map (fun f => (f.type, f.offset)) = L)
    (h : DataW.trod enc Try.prog W 0 (fun _ => true) true fuel t cs = some x) : cs.length = Try.prog.cellsOf t ∧ ∃ m, ∀ (i : Nat) (ty : TypeId) (off : Nat), L[i]? = some (ty, off) → ∃ y, DataW.trod enc Try.prog W 0 (fun _ => true) true m ty ((cs.drop off).take (Try.prog.cellsOf ty)) = some y := by
  obtain ⟨ys, m, _, _, hlen, hl, hx⟩ := DataW.trod_struct hfs h
  refine ⟨hlen, m, fun i ty off hi => ?_⟩
  rw [← hmap, Array.getElem?_map, Option.map_eq_some_iff] at hi
  obtain ⟨f, hf, he⟩ := hi
  injection he with h1 h2
  have h3 := hx i f hf
  have hiy : i < ys.length := by rw [hl]; exact (Array.getElem?_eq_some_iff.1 hf).1
  rw [h1, h2, List.getElem?_eq_getElem hiy] at h3
  exact ⟨_, h3⟩

theorem int_cell {W : World} {m : Nat} {v : Value} (hy : ∃ y, DataW.trod enc Try.prog W 0 (fun _ => true) true m 3 [v] = some y) : ∃ z : Int, v = .int .i64 z := by
  obtain ⟨y, hy⟩ := hy
  obtain ⟨z, hz, _, _⟩ := DataW.trod_int Try.underlying3 hy
  simp only [List.cons.injEq, and_true] at hz
  exact ⟨z, hz⟩

theorem entry_cells {W : World} {fuel : Nat} {cs : List Value} {x : DataW H × List MemPlace} (h : DataW.trod enc Try.prog W 0 (fun _ => true) true fuel 30 cs = some x) :
    ∃ x4 x5 x6 : Int, cs = [.int .i64 x4, .int .i64 x5, .int .i64 x6] := by
  obtain ⟨fs, hfs, hmap⟩ := fieldsEntry
  obtain ⟨hlen, m, hfield⟩ := field_of hfs _ hmap h
  rw [three] at hlen
  match cs, hlen with
  | [a0, a1, a2], _ =>
    obtain ⟨k, rfl⟩ := int_cell (v := a0) (by have := hfield 0 _ _ rfl; rw [one3] at this; exact this)
    obtain ⟨l, rfl⟩ := int_cell (v := a1) (by have := hfield 1 _ _ rfl; rw [one3] at this; exact this)
    obtain ⟨s, rfl⟩ := int_cell (v := a2) (by have := hfield 2 _ _ rfl; rw [one3] at this; exact this)
    exact ⟨k, l, s, rfl⟩

theorem op_cells {W : World} {fuel : Nat} {cs : List Value} {x : DataW H × List MemPlace} (h : DataW.trod enc Try.prog W 0 (fun _ => true) true fuel 41 cs = some x) :
    ∃ x0 x1 x2 x3 x4 x5 x6 : Int, cs = [.int .i64 x0, .int .i64 x1, .int .i64 x2, .int .i64 x3, .int .i64 x4, .int .i64 x5, .int .i64 x6] := by
  obtain ⟨fs, hfs, hmap⟩ := fieldsOp
  obtain ⟨hlen, m, hfield⟩ := field_of hfs _ hmap h
  rw [seven] at hlen
  match cs, hlen with
  | [a0, a1, a2, a3, a4, a5, a6], _ =>
    obtain ⟨x0, rfl⟩ := int_cell (v := a0) (by have := hfield 0 _ _ rfl; rw [one3] at this; exact this)
    obtain ⟨x1, rfl⟩ := int_cell (v := a1) (by have := hfield 1 _ _ rfl; rw [one3] at this; exact this)
    obtain ⟨x2, rfl⟩ := int_cell (v := a2) (by have := hfield 2 _ _ rfl; rw [one3] at this; exact this)
    obtain ⟨x3, rfl⟩ := int_cell (v := a3) (by have := hfield 3 _ _ rfl; rw [one3] at this; exact this)
    obtain ⟨y4, h4⟩ := hfield 4 _ _ rfl
    rw [three] at h4
    obtain ⟨x4, x5, x6, he⟩ := entry_cells h4
    simp only [List.drop_succ_cons, List.drop_zero, List.take_succ_cons, List.take_zero, List.cons.injEq, and_true] at he
    obtain ⟨rfl, rfl, rfl⟩ := he
    exact ⟨x0, x1, x2, x3, x4, x5, x6, rfl⟩

theorem open_ops {W : World} {base : Nat} {v : Value} {d : DataW H} {ps : List MemPlace} (hv : Value.okWide Try.prog W .any base 38 v) (h : DataW.Trod enc Try.prog W 0 (fun _ => true) true 38 v d ps) :
    ∃ A n c, v = .slice A n c ∧ n ≤ c ∧ c ≤ maxLen ∧ Ops W W.heap.size A n := by
  obtain ⟨a0, len, cap, rfl⟩ := okWide_slice Try.underlying38 hv
  obtain ⟨fuel, hf⟩ := h
  rcases open_slice Try.underlying38 hf with ⟨hcs, _⟩ | ⟨a, len', cap', m, n, D, Pl, hcs, _, hl, hm, hmm, _, hx⟩
  · simp [Value.cells] at hcs
    obtain ⟨rfl, rfl, rfl⟩ := hcs
    exact ⟨_, _, _, rfl, Nat.le_refl _, Nat.zero_le _, fun i hi => absurd hi (by omega)⟩
  · simp [Value.cells] at hcs
    obtain ⟨rfl, rfl, rfl⟩ := hcs
    simp only [if_true] at hmm
    refine ⟨_, _, _, rfl, hl, hm, fun i hi => ?_⟩
    obtain ⟨cs, hc, hr⟩ := hx i (by omega)
    rw [seven] at hc
    obtain ⟨_, hlen, hcell⟩ := World.cells?_some hc
    obtain ⟨x0, x1, x2, x3, x4, x5, x6, rfl⟩ := op_cells hr
    obtain ⟨b, off, spot⟩ := a
    have hspot : spot = none := by
      obtain ⟨cs0, hc0, _⟩ := hx 0 (by omega)
      rw [seven] at hc0
      obtain ⟨_, hl0, hcell0⟩ := World.cells?_some hc0
      have h0 := hcell0 0 (by omega)
      rw [List.getElem?_eq_getElem (by omega)] at h0
      have := World.cell?_spot h0
      simpa [Addr.add] using this
    subst hspot
    have hk : ∀ q v, q < 7 → ([.int .i64 x0, .int .i64 x1, .int .i64 x2, .int .i64 x3, .int .i64 x4, .int .i64 x5, .int .i64 x6] : List Value)[q]? = some v → W.cell? ⟨b, off + i * 7 + q, none⟩ = some v := fun q v hq hv => by
      have := hcell q hq
      rw [add_plain, add_plain] at this
      rw [this]
      exact hv
    have c0 := hk 0 _ (by omega) rfl
    rw [Nat.add_zero] at c0
    exact ⟨b, off, x0, x1, x2, x3, x4, x5, x6, rfl, c0, hk 1 _ (by omega) rfl, hk 2 _ (by omega) rfl, hk 3 _ (by omega) rfl, hk 4 _ (by omega) rfl, hk 5 _ (by omega) rfl, hk 6 _ (by omega) rfl, cell_lt c0⟩

theorem open_op {W : World} {base : Nat} {v : Value} {d : DataW H} {ps : List MemPlace} (hv : Value.okWide Try.prog W .any base 41 v) (h : DataW.Trod enc Try.prog W 0 (fun _ => true) true 41 v d ps) :
    ∃ x0 x1 x2 x3 x4 x5 x6 : Int, v = .agg #[.int .i64 x0, .int .i64 x1, .int .i64 x2, .int .i64 x3, .int .i64 x4, .int .i64 x5, .int .i64 x6] := by
  obtain ⟨⟨l⟩, rfl, _⟩ := okWide_struct Try.underlying41 hv
  obtain ⟨fuel, hf⟩ := h
  have hcells : (Value.agg l.toArray).cells.toList = l := by simp [Value.cells]
  rw [hcells] at hf
  obtain ⟨x0, x1, x2, x3, x4, x5, x6, rfl⟩ := op_cells hf
  exact ⟨x0, x1, x2, x3, x4, x5, x6, rfl⟩
end

end Go.Proofs.Ytpheblblkkclbaa.L2pOps
