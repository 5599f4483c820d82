/-
  Arguments of layer 14's laws, opened: a slice of ops, each op's five cells; a slice of bools.
-/
import Derived.Test.YtldomhghkfbbkaaGateKit
import Derived.Deep.Slices
import Derived.Deep.Fields
namespace Go.Proofs.Ytldomhghkfbbkaa.GateOps
open Go.RowKit Go.ChangeShapes Go.WideShapes Go.Deep GateLaw
set_option maxRecDepth 4000

/-- An op's five cells: what to do, the kind; free, low, high. -/
structure OpAt (w : World) (B : Nat) (b o : Nat) (x0 x1 x2 x3 x4 : Int) : Prop where
  c0 : w.cell? ⟨b, o, none⟩ = some (.int .i64 x0)
  c1 : w.cell? ⟨b, o + 1, none⟩ = some (.int .i64 x1)
  c2 : w.cell? ⟨b, o + 2, none⟩ = some (.int .i64 x2)
  c3 : w.cell? ⟨b, o + 2 + 1, none⟩ = some (.int .i64 x3)
  c4 : w.cell? ⟨b, o + 2 + 2, none⟩ = some (.int .i64 x4)
  b2 : B64 x2
  lt : b < B

/-- A slice of ops that came in. -/
def Ops (w : World) (B : Nat) (A : Option Addr) (n : Nat) : Prop :=
  ∀ i, i < n → ∃ b off x0 x1 x2 x3 x4, A = some ⟨b, off, none⟩ ∧ OpAt w B b (off + i * 5) x0 x1 x2 x3 x4

theorem OpAt.keep {w w' : World} {B b o : Nat} {x0 x1 x2 x3 x4 : Int} (h : OpAt w B b o x0 x1 x2 x3 x4) (hk : Below B w w') : OpAt w' B b o x0 x1 x2 x3 x4 := by
  have hb : ∀ i v, w.cell? ⟨b, i, none⟩ = some v → w'.cell? ⟨b, i, none⟩ = some v := fun i v hv => (World.cell?_of_block (w := w) (hk.block b h.lt)).trans hv
  exact ⟨hb _ _ h.c0, hb _ _ h.c1, hb _ _ h.c2, hb _ _ h.c3, hb _ _ h.c4, h.b2, h.lt⟩

theorem Ops.keep {w w' : World} {B : Nat} {A : Option Addr} {n : Nat} (h : Ops w B A n) (hk : Below B w w') : Ops w' B A n := fun i hi => by
  obtain ⟨b, off, x0, x1, x2, x3, x4, e, ho⟩ := h i hi
  exact ⟨b, off, x0, x1, x2, x3, x4, e, ho.keep hk⟩

theorem fieldsOp : ∃ fs : Array Field, Try.prog.underlying 38 = some (.struct fs) ∧ fs.map (fun f => (f.type, f.offset)) = #[(3, 0), (3, 1), (36, 2)] := ⟨_, Try.underlying38, by kernel_rfl⟩

theorem one3 : Try.prog.cellsOf 3 = 1 := by kernel_rfl
theorem one4 : Try.prog.cellsOf 4 = 1 := by kernel_rfl
theorem three : Try.prog.cellsOf 36 = 3 := by kernel_rfl
theorem five : Try.prog.cellsOf 38 = 5 := by kernel_rfl

section
variable {H : Type} {enc : TypeId × Value → H}

theorem field_of {W : World} {t : TypeId} {fuel : Nat} {cs : List Value} {x : DataW H × List MemPlace} {fs : Array Field} (hfs : Try.prog.underlying t = some (.struct fs)) (L : Array (TypeId × Nat)) (hmap : fs.map (fun f => (f.type, f.offset)) = L)
    (h : DataW.trod enc Try.prog W 0 (fun _ => true) true fuel t cs = some x) : cs.length = Try.prog.cellsOf t ∧ ∃ m, ∀ (i : Nat) (ty : TypeId) (off : Nat), L[i]? = some (ty, off) → ∃ y, DataW.trod enc Try.prog W 0 (fun _ => true) true m ty ((cs.drop off).take (Try.prog.cellsOf ty)) = some y := by
  obtain ⟨ys, m, _, _, hlen, hl, hx⟩ := DataW.trod_struct hfs h
  refine ⟨hlen, m, fun i ty off hi => ?_⟩
  rw [← hmap, Array.getElem?_map, Option.map_eq_some_iff] at hi
  obtain ⟨f, hf, he⟩ := hi
  injection he with h1 h2
  have h3 := hx i f hf
  have hiy : i < ys.length := by rw [hl]; exact (Array.getElem?_eq_some_iff.1 hf).1
  rw [h1, h2, List.getElem?_eq_getElem hiy] at h3
  exact ⟨_, h3⟩

theorem int_cell {W : World} {m : Nat} {v : Value} (hy : ∃ y, DataW.trod enc Try.prog W 0 (fun _ => true) true m 3 [v] = some y) : ∃ z : Int, v = .int .i64 z := by
  obtain ⟨y, hy⟩ := hy
  obtain ⟨z, hz, _, _⟩ := DataW.trod_int Try.underlying3 hy
  simp only [List.cons.injEq, and_true] at hz
  exact ⟨z, hz⟩

theorem arr_cells {W : World} {fuel : Nat} {a0 a1 a2 : Value} {x : DataW H × List MemPlace} (h : DataW.trod enc Try.prog W 0 (fun _ => true) true fuel 36 [a0, a1, a2] = some x) :
    ∃ y z u : Int, a0 = .int .i64 y ∧ a1 = .int .i64 z ∧ a2 = .int .i64 u ∧ B64 y := by
  obtain ⟨xs, m, _, _, _, hl, hx⟩ := DataW.trod_array Try.underlying36 h
  have hat : ∀ i (hi : i < 3) v, ([a0, a1, a2] : List Value)[i]? = some v → ∃ z : Int, v = .int .i64 z ∧ B64 z := by
    intro i hi v hv
    have h1 := hx i hi
    have hxi : xs[i]? = some (xs[i]'(by omega)) := List.getElem?_eq_getElem (by omega)
    rw [one3, Nat.mul_one, hxi] at h1
    obtain ⟨z, hz, _, hw⟩ := DataW.trod_int Try.underlying3 h1
    have hone : (([a0, a1, a2] : List Value).drop i).take 1 = [v] := by
      match i, hi, hv with
      | 0, _, hv => injection hv with hv; rw [hv]; rfl
      | 1, _, hv => injection hv with hv; rw [hv]; rfl
      | 2, _, hv => injection hv with hv; rw [hv]; rfl
    rw [hone] at hz
    simp only [List.cons.injEq, and_true] at hz
    exact ⟨z, hz, by simpa [Lit.wf, IntKind.min, IntKind.max, IntKind.signed, IntKind.bits] using hw⟩
  obtain ⟨y, e0, b0⟩ := hat 0 (by omega) a0 rfl
  obtain ⟨z, e1, _⟩ := hat 1 (by omega) a1 rfl
  obtain ⟨u, e2, _⟩ := hat 2 (by omega) a2 rfl
  exact ⟨y, z, u, e0, e1, e2, b0⟩

theorem op_cells {W : World} {fuel : Nat} {cs : List Value} {x : DataW H × List MemPlace} (h : DataW.trod enc Try.prog W 0 (fun _ => true) true fuel 38 cs = some x) :
    ∃ x0 x1 x2 x3 x4 : Int, cs = [.int .i64 x0, .int .i64 x1, .int .i64 x2, .int .i64 x3, .int .i64 x4] ∧ B64 x2 := by
  obtain ⟨fs, hfs, hmap⟩ := fieldsOp
  obtain ⟨hlen, m, hfield⟩ := field_of hfs _ hmap h
  rw [five] at hlen
  match cs, hlen with
  | [a0, a1, a2, a3, a4], _ =>
    obtain ⟨x0, rfl⟩ := int_cell (v := a0) (by have := hfield 0 _ _ rfl; rw [one3] at this; exact this)
    obtain ⟨x1, rfl⟩ := int_cell (v := a1) (by have := hfield 1 _ _ rfl; rw [one3] at this; exact this)
    obtain ⟨y4, h4⟩ := hfield 2 _ _ rfl
    rw [three] at h4
    obtain ⟨x2, x3, x4, rfl, rfl, rfl, hb⟩ := arr_cells h4
    exact ⟨x0, x1, x2, x3, x4, rfl, hb⟩

theorem open_ops {W : World} {base : Nat} {v : Value} {d : DataW H} {ps : List MemPlace} (hv : Value.okWide Try.prog W .any base 28 v) (h : DataW.Trod enc Try.prog W 0 (fun _ => true) true 28 v d ps) :
    ∃ A n c, v = .slice A n c ∧ n ≤ c ∧ c ≤ maxLen ∧ Ops W W.heap.size A n := by
  obtain ⟨a0, len, cap, rfl⟩ := okWide_slice Try.underlying28 hv
  obtain ⟨fuel, hf⟩ := h
  rcases open_slice Try.underlying28 hf with ⟨hcs, _⟩ | ⟨a, len', cap', m, n, D, Pl, hcs, _, hl, hm, hmm, _, hx⟩
  · simp [Value.cells] at hcs
    obtain ⟨rfl, rfl, rfl⟩ := hcs
    exact ⟨_, _, _, rfl, Nat.le_refl _, Nat.zero_le _, fun i hi => absurd hi (by omega)⟩
  · simp [Value.cells] at hcs
    obtain ⟨rfl, rfl, rfl⟩ := hcs
    simp only [if_true] at hmm
    refine ⟨_, _, _, rfl, hl, hm, fun i hi => ?_⟩
    obtain ⟨cs, hc, hr⟩ := hx i (by omega)
    rw [five] at hc
    obtain ⟨_, hlen, hcell⟩ := World.cells?_some hc
    obtain ⟨x0, x1, x2, x3, x4, rfl, hb2⟩ := op_cells hr
    obtain ⟨b, off, spot⟩ := a
    have hspot : spot = none := by
      obtain ⟨cs0, hc0, _⟩ := hx 0 (by omega)
      rw [five] at hc0
      obtain ⟨_, hl0, hcell0⟩ := World.cells?_some hc0
      have h0 := hcell0 0 (by omega)
      rw [List.getElem?_eq_getElem (by omega)] at h0
      have := World.cell?_spot h0
      simpa [Addr.add] using this
    subst hspot
    have hk : ∀ q v, q < 5 → ([.int .i64 x0, .int .i64 x1, .int .i64 x2, .int .i64 x3, .int .i64 x4] : List Value)[q]? = some v → W.cell? ⟨b, off + i * 5 + q, none⟩ = some v := fun q v hq hv => by
      have := hcell q hq
      rw [add_plain, add_plain] at this
      rw [this]
      exact hv
    have c0 := hk 0 _ (by omega) rfl
    rw [Nat.add_zero] at c0
    exact ⟨b, off, x0, x1, x2, x3, x4, rfl, c0, hk 1 _ (by omega) rfl, hk 2 _ (by omega) rfl, hk 3 _ (by omega) rfl, hk 4 _ (by omega) rfl, hb2, cell_lt c0⟩

end

/-- A slice of bools that came in. -/
def Bools (w : World) (B : Nat) (A : Option Addr) (n : Nat) : Prop :=
  ∀ i, i < n → ∃ b off x, A = some ⟨b, off, none⟩ ∧ b < B ∧ w.cell? ⟨b, off + i, none⟩ = some (.bool x)

theorem Bools.keep {w w' : World} {B : Nat} {A : Option Addr} {n : Nat} (h : Bools w B A n) (hk : Below B w w') : Bools w' B A n := fun i hi => by
  obtain ⟨b, off, x, e, hb, hc⟩ := h i hi
  exact ⟨b, off, x, e, hb, (World.cell?_of_block (w := w) (hk.block b hb)).trans hc⟩

section
variable {H : Type} {enc : TypeId × Value → H}
theorem open_bools {W : World} {base : Nat} {v : Value} {d : DataW H} {ps : List MemPlace} (hv : Value.okWide Try.prog W .any base 43 v) (h : DataW.Trod enc Try.prog W 0 (fun _ => true) true 43 v d ps) :
    ∃ A n c, v = .slice A n c ∧ n ≤ c ∧ c ≤ maxLen ∧ Bools W W.heap.size A n := by
  obtain ⟨a0, len, cap, rfl⟩ := okWide_slice Try.underlying43 hv
  obtain ⟨fuel, hf⟩ := h
  rcases open_slice Try.underlying43 hf with ⟨hcs, _⟩ | ⟨a, len', cap', m, n, D, Pl, hcs, _, hl, hm, hmm, _, hx⟩
  · simp [Value.cells] at hcs
    obtain ⟨rfl, rfl, rfl⟩ := hcs
    exact ⟨_, _, _, rfl, Nat.le_refl _, Nat.zero_le _, fun i hi => absurd hi (by omega)⟩
  · simp [Value.cells] at hcs
    obtain ⟨rfl, rfl, rfl⟩ := hcs
    simp only [if_true] at hmm
    refine ⟨_, _, _, rfl, hl, hm, fun i hi => ?_⟩
    obtain ⟨cs, hc, hr⟩ := hx i (by omega)
    rw [one4] at hc
    obtain ⟨_, hlen, hcell⟩ := World.cells?_some hc
    obtain ⟨x, hcs2, _⟩ := DataW.trod_bool Try.underlying4 hr
    subst hcs2
    have h0 := hcell 0 (by omega)
    obtain ⟨b, off, spot⟩ := a
    have hspot : spot = none := by
      obtain ⟨cs0, hc0, _⟩ := hx 0 (by omega)
      rw [one4] at hc0
      obtain ⟨_, hl0, hcell0⟩ := World.cells?_some hc0
      have h00 := hcell0 0 (by omega)
      rw [List.getElem?_eq_getElem (by omega)] at h00
      have := World.cell?_spot h00
      simpa [Addr.add] using this
    subst hspot
    rw [add_plain, add_plain, Nat.mul_one, Nat.add_zero] at h0
    have h0 : W.cell? ⟨b, off + i, none⟩ = some (.bool x) := h0
    exact ⟨b, off, x, rfl, cell_lt h0, h0⟩
end
end Go.Proofs.Ytldomhghkfbbkaa.GateOps
