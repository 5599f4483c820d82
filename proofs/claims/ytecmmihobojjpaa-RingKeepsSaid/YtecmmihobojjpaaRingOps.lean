/-
  An argument that is a slice of layer 10's ops, opened: each op's eight cells.
-/
import Derived.Test.YtecmmihobojjpaaBytes
import Derived.Test.YtecmmihobojjpaaChecked
import Derived.OpenShut
import Derived.Deep.Slices
import Derived.Deep.Fields
namespace Go.Proofs.Ytecmmihobojjpaa.RingOps
open Go.RowKit Go.ChangeShapes Go.WideShapes Go.Deep
set_option maxRecDepth 4000

/-- An op's eight cells. -/
structure OpAt (w : World) (B : Nat) (b o : Nat) (x0 x1 : Int) (last : Bool) (k l s f : Int) (xs : List UInt8) (Ap : Option Addr) (np cp : Nat) : Prop where
  c0 : w.cell? ⟨b, o, none⟩ = some (.int .i64 x0)
  c1 : w.cell? ⟨b, o + 1, none⟩ = some (.int .i64 x1)
  c2 : w.cell? ⟨b, o + 2, none⟩ = some (.bool last)
  c3 : w.cell? ⟨b, o + 3, none⟩ = some (.int .i64 k)
  c4 : w.cell? ⟨b, o + 4, none⟩ = some (.int .i64 l)
  c5 : w.cell? ⟨b, o + 5, none⟩ = some (.int .i64 s)
  c6 : w.cell? ⟨b, o + 6, none⟩ = some (.slice Ap np cp)
  c7 : w.cell? ⟨b, o + 7, none⟩ = some (.int .i64 f)
  lt : b < B
  fit : np ≤ cp
  top : cp ≤ maxLen
  data : Bytes w B Ap np xs

/-- A slice of ops that came in. -/
def Ops (w : World) (B : Nat) (A : Option Addr) (n : Nat) : Prop :=
  ∀ i, i < n → ∃ b off x0 x1 last k l s f xs Ap np cp, A = some ⟨b, off, none⟩ ∧ OpAt w B b (off + i * 8) x0 x1 last k l s f xs Ap np cp

theorem OpAt.keep {w w' : World} {B b o : Nat} {x0 x1 : Int} {last : Bool} {k l s f : Int} {xs : List UInt8} {Ap : Option Addr} {np cp : Nat} (h : OpAt w B b o x0 x1 last k l s f xs Ap np cp) (hk : Below B w w') : OpAt w' B b o x0 x1 last k l s f xs Ap np cp := by
  have hb : ∀ i v, w.cell? ⟨b, i, none⟩ = some v → w'.cell? ⟨b, i, none⟩ = some v := fun i v hv => (World.cell?_of_block (w := w) (hk.block b h.lt)).trans hv
  exact ⟨hb _ _ h.c0, hb _ _ h.c1, hb _ _ h.c2, hb _ _ h.c3, hb _ _ h.c4, hb _ _ h.c5, hb _ _ h.c6, hb _ _ h.c7, h.lt, h.fit, h.top, bytes_keep h.data hk⟩

theorem Ops.keep {w w' : World} {B : Nat} {A : Option Addr} {n : Nat} (h : Ops w B A n) (hk : Below B w w') : Ops w' B A n := fun i hi => by
  obtain ⟨b, off, x0, x1, last, k, l, s, f, xs, Ap, np, cp, e, ho⟩ := h i hi
  exact ⟨b, off, x0, x1, last, k, l, s, f, xs, Ap, np, cp, e, ho.keep hk⟩

theorem fieldsOp : ∃ fs : Array Field, Try.prog.underlying 37 = some (.struct fs) ∧ fs.map (fun f => (f.type, f.offset)) = #[(3, 0), (3, 1), (4, 2), (35, 3)] := ⟨_, Try.underlying37, by kernel_rfl⟩
theorem fieldsSlot : ∃ fs : Array Field, Try.prog.underlying 35 = some (.struct fs) ∧ fs.map (fun f => (f.type, f.offset)) = #[(3, 0), (3, 1), (3, 2), (33, 3), (3, 4)] := ⟨_, Try.underlying35, by kernel_rfl⟩

theorem one3 : Try.prog.cellsOf 3 = 1 := by kernel_rfl
theorem one4 : Try.prog.cellsOf 4 = 1 := by kernel_rfl
theorem one5 : Try.prog.cellsOf 5 = 1 := by kernel_rfl
theorem one47 : Try.prog.cellsOf 33 = 1 := by kernel_rfl
theorem five : Try.prog.cellsOf 35 = 5 := by kernel_rfl
theorem eight : Try.prog.cellsOf 37 = 8 := by kernel_rfl

section
variable {H : Type} {enc : TypeId × Value → H}

/-- A slice of bytes by its cell. -/
theorem bytes_cell {P : Program} {W : World} {t e : TypeId} {fuel : Nat} {V : Value} {x : DataW H × List MemPlace} (ht : P.underlying t = some (.slice e)) (he : P.underlying e = some (.int .u8)) (hc : P.cellsOf e = 1)
    (hf : DataW.trod enc P W 0 (fun _ => true) true fuel t [V] = some x) : ∃ A n c xs, V = .slice A n c ∧ n ≤ c ∧ c ≤ maxLen ∧ Bytes W W.heap.size A n xs := by
  rcases open_ints ht he hc hf with ⟨hcs, _⟩ | ⟨a, len, cap, zs, hcs, _, hl, hm, hz, _, hcell, hwz⟩
  · simp only [List.cons.injEq, and_true] at hcs
    exact ⟨none, 0, 0, [], hcs, Nat.le_refl _, Nat.zero_le _, rfl, fun i hi => absurd hi (by simp)⟩
  · simp only [List.cons.injEq, and_true] at hcs
    subst hcs
    simp only [if_true] at hz
    refine ⟨_, _, _, (zs.take len).map u8, rfl, hl, hm, by simp; omega, fun i hi => ?_⟩
    simp only [List.length_map, List.length_take] at hi
    have hi2 : i < zs.length := by omega
    have hci := hcell i hi2
    obtain ⟨b, off, spot⟩ := a
    have hspot : spot = none := by simpa [Addr.add] using World.cell?_spot (hcell 0 (by omega))
    subst hspot
    rw [add_plain] at hci
    refine ⟨b, off, rfl, cell_lt hci, ?_⟩
    rw [hci]
    have hg : zs.getD i 0 = zs[i] := by simp [List.getD, hi2]
    have hw := hwz zs[i] (List.getElem_mem hi2)
    rw [hg]
    simp only [List.getElem_map, List.getElem_take]
    rw [u8_of hw]


theorem field_of {W : World} {t : TypeId} {fuel : Nat} {cs : List Value} {x : DataW H × List MemPlace} {fs : Array Field} (hfs : Try.prog.underlying t = some (.struct fs)) (L : Array (TypeId × Nat)) (hmap : fs.map (fun f => (f.type, f.offset)) = L)
    (h : DataW.trod enc Try.prog W 0 (fun _ => true) true fuel t cs = some x) : cs.length = Try.prog.cellsOf t ∧ ∃ m, ∀ (i : Nat) (ty : TypeId) (off : Nat), L[i]? = some (ty, off) → ∃ y, DataW.trod enc Try.prog W 0 (fun _ => true) true m ty ((cs.drop off).take (Try.prog.cellsOf ty)) = some y := by
  obtain ⟨ys, m, _, _, hlen, hl, hx⟩ := DataW.trod_struct hfs h
  refine ⟨hlen, m, fun i ty off hi => ?_⟩
  rw [← hmap, Array.getElem?_map, Option.map_eq_some_iff] at hi
  obtain ⟨f, hf, he⟩ := hi
  injection he with h1 h2
  have h3 := hx i f hf
  have hiy : i < ys.length := by rw [hl]; exact (Array.getElem?_eq_some_iff.1 hf).1
  rw [h1, h2, List.getElem?_eq_getElem hiy] at h3
  exact ⟨_, h3⟩

theorem int_cell {W : World} {m : Nat} {v : Value} (hy : ∃ y, DataW.trod enc Try.prog W 0 (fun _ => true) true m 3 [v] = some y) : ∃ z : Int, v = .int .i64 z := by
  obtain ⟨y, hy⟩ := hy
  obtain ⟨z, hz, _, _⟩ := DataW.trod_int Try.underlying3 hy
  simp only [List.cons.injEq, and_true] at hz
  exact ⟨z, hz⟩

theorem slot_cells {W : World} {fuel : Nat} {cs : List Value} {x : DataW H × List MemPlace} (h : DataW.trod enc Try.prog W 0 (fun _ => true) true fuel 35 cs = some x) :
    ∃ (k l s f : Int) (xs : List UInt8) (Ap : Option Addr) (np cp : Nat), cs = [.int .i64 k, .int .i64 l, .int .i64 s, .slice Ap np cp, .int .i64 f] ∧ np ≤ cp ∧ cp ≤ maxLen ∧ Bytes W W.heap.size Ap np xs := by
  obtain ⟨fs, hfs, hmap⟩ := fieldsSlot
  obtain ⟨hlen, m, hfield⟩ := field_of hfs _ hmap h
  rw [five] at hlen
  match cs, hlen with
  | [a0, a1, a2, a3, a4], _ =>
    obtain ⟨k, rfl⟩ := int_cell (v := a0) (by have := hfield 0 _ _ rfl; rw [one3] at this; exact this)
    obtain ⟨l, rfl⟩ := int_cell (v := a1) (by have := hfield 1 _ _ rfl; rw [one3] at this; exact this)
    obtain ⟨s, rfl⟩ := int_cell (v := a2) (by have := hfield 2 _ _ rfl; rw [one3] at this; exact this)
    obtain ⟨f, rfl⟩ := int_cell (v := a4) (by have := hfield 4 _ _ rfl; rw [one3] at this; exact this)
    obtain ⟨y3, h3⟩ := hfield 3 _ _ rfl
    rw [one47] at h3
    obtain ⟨Ap, np, cp, xs, he, h1, h2, h4⟩ := bytes_cell (V := a3) Try.underlying33 Try.underlying5 one5 h3
    subst he
    exact ⟨k, l, s, f, xs, Ap, np, cp, rfl, h1, h2, h4⟩

theorem op_cells {W : World} {fuel : Nat} {cs : List Value} {x : DataW H × List MemPlace} (h : DataW.trod enc Try.prog W 0 (fun _ => true) true fuel 37 cs = some x) :
    ∃ (x0 x1 : Int) (last : Bool) (k l s f : Int) (xs : List UInt8) (Ap : Option Addr) (np cp : Nat), cs = [.int .i64 x0, .int .i64 x1, .bool last, .int .i64 k, .int .i64 l, .int .i64 s, .slice Ap np cp, .int .i64 f] ∧ np ≤ cp ∧ cp ≤ maxLen ∧ Bytes W W.heap.size Ap np xs := by
  obtain ⟨fs, hfs, hmap⟩ := fieldsOp
  obtain ⟨hlen, m, hfield⟩ := field_of hfs _ hmap h
  rw [eight] at hlen
  match cs, hlen with
  | [a0, a1, a2, a3, a4, a5, a6, a7], _ =>
    obtain ⟨x0, rfl⟩ := int_cell (v := a0) (by have := hfield 0 _ _ rfl; rw [one3] at this; exact this)
    obtain ⟨x1, rfl⟩ := int_cell (v := a1) (by have := hfield 1 _ _ rfl; rw [one3] at this; exact this)
    obtain ⟨y2, h2⟩ := hfield 2 _ _ rfl
    rw [one4] at h2
    obtain ⟨last, ho, _⟩ := DataW.trod_bool Try.underlying4 h2
    have ho' : a2 = .bool last := by simpa using ho
    subst ho'
    obtain ⟨y3, h3⟩ := hfield 3 _ _ rfl
    rw [five] at h3
    obtain ⟨k, l, s, f, xs, Ap, np, cp, he, h4, h5, h6⟩ := slot_cells h3
    simp only [List.drop_succ_cons, List.drop_zero, List.take_succ_cons, List.take_zero, List.cons.injEq, and_true] at he
    obtain ⟨rfl, rfl, rfl, rfl, rfl⟩ := he
    exact ⟨x0, x1, last, k, l, s, f, xs, Ap, np, cp, rfl, h4, h5, h6⟩

theorem open_ops {W : World} {base : Nat} {v : Value} {d : DataW H} {ps : List MemPlace} (hv : Value.okWide Try.prog W .any base 32 v) (h : DataW.Trod enc Try.prog W 0 (fun _ => true) true 32 v d ps) :
    ∃ A n c, v = .slice A n c ∧ n ≤ c ∧ c ≤ maxLen ∧ Ops W W.heap.size A n := by
  obtain ⟨a0, len, cap, rfl⟩ := okWide_slice Try.underlying32 hv
  obtain ⟨fuel, hf⟩ := h
  rcases open_slice Try.underlying32 hf with ⟨hcs, _⟩ | ⟨a, len', cap', m, n, D, Pl, hcs, _, hl, hm, hmm, _, hx⟩
  · simp [Value.cells] at hcs
    obtain ⟨rfl, rfl, rfl⟩ := hcs
    exact ⟨_, _, _, rfl, Nat.le_refl _, Nat.zero_le _, fun i hi => absurd hi (by omega)⟩
  · simp [Value.cells] at hcs
    obtain ⟨rfl, rfl, rfl⟩ := hcs
    simp only [if_true] at hmm
    refine ⟨_, _, _, rfl, hl, hm, fun i hi => ?_⟩
    obtain ⟨cs, hc, hr⟩ := hx i (by omega)
    rw [eight] at hc
    obtain ⟨_, hlen, hcell⟩ := World.cells?_some hc
    obtain ⟨x0, x1, last, k, l, s, f, xs, Ap, np, cp, rfl, h1, h2, h3⟩ := op_cells hr
    obtain ⟨b, off, spot⟩ := a
    have hspot : spot = none := by
      obtain ⟨cs0, hc0, _⟩ := hx 0 (by omega)
      rw [eight] at hc0
      obtain ⟨_, hl0, hcell0⟩ := World.cells?_some hc0
      have h0 := hcell0 0 (by omega)
      rw [List.getElem?_eq_getElem (by omega)] at h0
      have := World.cell?_spot h0
      simpa [Addr.add] using this
    subst hspot
    have hk : ∀ q v, q < 8 → ([.int .i64 x0, .int .i64 x1, .bool last, .int .i64 k, .int .i64 l, .int .i64 s, .slice Ap np cp, .int .i64 f] : List Value)[q]? = some v → W.cell? ⟨b, off + i * 8 + q, none⟩ = some v := fun q v hq hv => by
      have := hcell q hq
      rw [add_plain, add_plain] at this
      rw [this]
      exact hv
    have c0 := hk 0 _ (by omega) rfl
    rw [Nat.add_zero] at c0
    exact ⟨b, off, x0, x1, last, k, l, s, f, xs, Ap, np, cp, rfl, c0, hk 1 _ (by omega) rfl, hk 2 _ (by omega) rfl, hk 3 _ (by omega) rfl, hk 4 _ (by omega) rfl, hk 5 _ (by omega) rfl, hk 6 _ (by omega) rfl, hk 7 _ (by omega) rfl, cell_lt c0, h1, h2, h3⟩
end

end Go.Proofs.Ytecmmihobojjpaa.RingOps
