/-
  An argument that is a slice of layer 16's ops, opened: each op's seven cells.
-/
import Derived.Test.YtkpneckgpolaoaaQueueMath
import Derived.Test.YtkpneckgpolaoaaNums
import Derived.Test.YtkpneckgpolaoaaChecked
import Derived.OpenShut
import Derived.Deep.Slices
import Derived.Deep.Fields
namespace Go.Proofs.Ytkpneckgpolaoaa.QueueOps
open Go.RowKit Go.ChangeShapes Go.WideShapes Go.Deep Queue
set_option maxRecDepth 4000

structure Op16 where
  d : Int
  c : Int
  j : Jb

/-- An op's seven cells. -/
structure OpAt (w : World) (B : Nat) (b o : Nat) (x : Op16) (Ap : Option Addr) (cp : Nat) : Prop where
  c0 : w.cell? ⟨b, o, none⟩ = some (.int .i64 x.d)
  c1 : w.cell? ⟨b, o + 1, none⟩ = some (.int .i64 x.c)
  c2 : w.cell? ⟨b, o + 2, none⟩ = some (.int .i64 x.j.k)
  c3 : w.cell? ⟨b, o + 3, none⟩ = some (.int .i64 x.j.l)
  c4 : w.cell? ⟨b, o + 4, none⟩ = some (.int .i64 x.j.u)
  c5 : w.cell? ⟨b, o + 5, none⟩ = some (.int .i64 x.j.p)
  c6 : w.cell? ⟨b, o + 6, none⟩ = some (.slice Ap x.j.d.length cp)
  lt : b < B
  fit : x.j.d.length ≤ cp
  top : cp ≤ maxLen
  data : Nums w B Ap x.j.d.length x.j.d

/-- A slice of ops that came in. -/
def Ops (w : World) (B : Nat) (A : Option Addr) (n : Nat) : Prop :=
  ∀ i, i < n → ∃ b off x Ap cp, A = some ⟨b, off, none⟩ ∧ OpAt w B b (off + i * 7) x Ap cp

theorem OpAt.keep {w w' : World} {B b o : Nat} {x : Op16} {Ap : Option Addr} {cp : Nat} (h : OpAt w B b o x Ap cp) (hk : Below B w w') : OpAt w' B b o x Ap cp := by
  have hb : ∀ i v, w.cell? ⟨b, i, none⟩ = some v → w'.cell? ⟨b, i, none⟩ = some v := fun i v hv => (World.cell?_of_block (w := w) (hk.block b h.lt)).trans hv
  exact ⟨hb _ _ h.c0, hb _ _ h.c1, hb _ _ h.c2, hb _ _ h.c3, hb _ _ h.c4, hb _ _ h.c5, hb _ _ h.c6, h.lt, h.fit, h.top, nums_keep h.data hk⟩

theorem Ops.keep {w w' : World} {B : Nat} {A : Option Addr} {n : Nat} (h : Ops w B A n) (hk : Below B w w') : Ops w' B A n := fun i hi => by
  obtain ⟨b, off, x, Ap, cp, e, ho⟩ := h i hi
  exact ⟨b, off, x, Ap, cp, e, ho.keep hk⟩

theorem fieldsOp : ∃ fs : Array Field, Try.prog.underlying 40 = some (.struct fs) ∧ fs.map (fun f => (f.type, f.offset)) = #[(3, 0), (3, 1), (32, 2)] := ⟨_, Try.underlying40, by kernel_rfl⟩
theorem fieldsJob : ∃ fs : Array Field, Try.prog.underlying 32 = some (.struct fs) ∧ fs.map (fun f => (f.type, f.offset)) = #[(3, 0), (3, 1), (3, 2), (3, 3), (30, 4)] := ⟨_, Try.underlying32, by kernel_rfl⟩

theorem oneI : Try.prog.cellsOf 3 = 1 := by kernel_rfl
theorem oneS : Try.prog.cellsOf 30 = 1 := by kernel_rfl
theorem five : Try.prog.cellsOf 32 = 5 := by kernel_rfl
theorem seven : Try.prog.cellsOf 40 = 7 := by kernel_rfl

section
variable {H : Type} {enc : TypeId × Value → H}

/-- A slice of ints by its cell. -/
theorem nums_cell {P : Program} {W : World} {t e : TypeId} {fuel : Nat} {V : Value} {x : DataW H × List MemPlace} (ht : P.underlying t = some (.slice e)) (he : P.underlying e = some (.int .i64)) (hc : P.cellsOf e = 1)
    (hf : DataW.trod enc P W 0 (fun _ => true) true fuel t [V] = some x) : ∃ A n c zs, V = .slice A n c ∧ n ≤ c ∧ c ≤ maxLen ∧ Nums W W.heap.size A n zs := by
  rcases open_ints ht he hc hf with ⟨hcs, _⟩ | ⟨a, len, cap, zs, hcs, _, hl, hm, hz, _, hcell, hwz⟩
  · simp only [List.cons.injEq, and_true] at hcs
    exact ⟨none, 0, 0, [], hcs, Nat.le_refl _, Nat.zero_le _, rfl, fun i hi => absurd hi (by simp)⟩
  · simp only [List.cons.injEq, and_true] at hcs
    subst hcs
    simp only [if_true] at hz
    refine ⟨_, _, _, zs.take len, rfl, hl, hm, by simp; omega, fun i hi => ?_⟩
    simp only [List.length_take] at hi
    have hi2 : i < zs.length := by omega
    have hci := hcell i hi2
    obtain ⟨b, off, spot⟩ := a
    have hspot : spot = none := by simpa [Addr.add] using World.cell?_spot (hcell 0 (by omega))
    subst hspot
    rw [add_plain] at hci
    have hw := hwz zs[i] (List.getElem_mem hi2)
    have hbd : -9223372036854775808 ≤ zs[i] ∧ zs[i] ≤ 9223372036854775807 := by simpa [Lit.wf, IntKind.min, IntKind.max, IntKind.signed, IntKind.bits] using hw
    have hg : zs.getD i 0 = zs[i] := by simp [List.getD, hi2]
    simp only [List.getElem_take]
    exact ⟨hbd.1, hbd.2, b, off, rfl, cell_lt hci, by rw [hci, hg]⟩

theorem field_of {W : World} {t : TypeId} {fuel : Nat} {cs : List Value} {x : DataW H × List MemPlace} {fs : Array Field} (hfs : Try.prog.underlying t = some (.struct fs)) (L : Array (TypeId × Nat)) (hmap : fs.map (fun f => (f.type, f.offset)) = L)
    (h : DataW.trod enc Try.prog W 0 (fun _ => true) true fuel t cs = some x) : cs.length = Try.prog.cellsOf t ∧ ∃ m, ∀ (i : Nat) (ty : TypeId) (off : Nat), L[i]? = some (ty, off) → ∃ y, DataW.trod enc Try.prog W 0 (fun _ => true) true m ty ((cs.drop off).take (Try.prog.cellsOf ty)) = some y := by
  obtain ⟨ys, m, _, _, hlen, hl, hx⟩ := DataW.trod_struct hfs h
  refine ⟨hlen, m, fun i ty off hi => ?_⟩
  rw [← hmap, Array.getElem?_map, Option.map_eq_some_iff] at hi
  obtain ⟨f, hf, he⟩ := hi
  injection he with h1 h2
  have h3 := hx i f hf
  have hiy : i < ys.length := by rw [hl]; exact (Array.getElem?_eq_some_iff.1 hf).1
  rw [h1, h2, List.getElem?_eq_getElem hiy] at h3
  exact ⟨_, h3⟩

theorem int_cell {W : World} {m : Nat} {v : Value} (hy : ∃ y, DataW.trod enc Try.prog W 0 (fun _ => true) true m 3 [v] = some y) : ∃ z : Int, v = .int .i64 z := by
  obtain ⟨y, hy⟩ := hy
  obtain ⟨z, hz, _, _⟩ := DataW.trod_int Try.underlying3 hy
  simp only [List.cons.injEq, and_true] at hz
  exact ⟨z, hz⟩

theorem job_cells {W : World} {fuel : Nat} {cs : List Value} {x : DataW H × List MemPlace} (h : DataW.trod enc Try.prog W 0 (fun _ => true) true fuel 32 cs = some x) :
    ∃ (j : Jb) (Ap : Option Addr) (cp : Nat), cs = [.int .i64 j.k, .int .i64 j.l, .int .i64 j.u, .int .i64 j.p, .slice Ap j.d.length cp] ∧ j.d.length ≤ cp ∧ cp ≤ maxLen ∧ Nums W W.heap.size Ap j.d.length j.d := by
  obtain ⟨fs, hfs, hmap⟩ := fieldsJob
  obtain ⟨hlen, m, hfield⟩ := field_of hfs _ hmap h
  rw [five] at hlen
  match cs, hlen with
  | [a0, a1, a2, a3, a4], _ =>
    obtain ⟨k, rfl⟩ := int_cell (v := a0) (by have := hfield 0 _ _ rfl; rw [oneI] at this; exact this)
    obtain ⟨l, rfl⟩ := int_cell (v := a1) (by have := hfield 1 _ _ rfl; rw [oneI] at this; exact this)
    obtain ⟨u, rfl⟩ := int_cell (v := a2) (by have := hfield 2 _ _ rfl; rw [oneI] at this; exact this)
    obtain ⟨p, rfl⟩ := int_cell (v := a3) (by have := hfield 3 _ _ rfl; rw [oneI] at this; exact this)
    obtain ⟨y4, h4⟩ := hfield 4 _ _ rfl
    rw [oneS] at h4
    obtain ⟨Ap, np, cp, zs, he, h1, h2, h3⟩ := nums_cell (V := a4) Try.underlying30 Try.underlying3 oneI h4
    subst he
    obtain rfl : zs.length = np := h3.1
    exact ⟨⟨k, l, u, p, zs⟩, Ap, cp, rfl, h1, h2, h3⟩

theorem op_cells {W : World} {fuel : Nat} {cs : List Value} {x : DataW H × List MemPlace} (h : DataW.trod enc Try.prog W 0 (fun _ => true) true fuel 40 cs = some x) :
    ∃ (o : Op16) (Ap : Option Addr) (cp : Nat), cs = [.int .i64 o.d, .int .i64 o.c, .int .i64 o.j.k, .int .i64 o.j.l, .int .i64 o.j.u, .int .i64 o.j.p, .slice Ap o.j.d.length cp] ∧ o.j.d.length ≤ cp ∧ cp ≤ maxLen ∧ Nums W W.heap.size Ap o.j.d.length o.j.d := by
  obtain ⟨fs, hfs, hmap⟩ := fieldsOp
  obtain ⟨hlen, m, hfield⟩ := field_of hfs _ hmap h
  rw [seven] at hlen
  match cs, hlen with
  | [a0, a1, a2, a3, a4, a5, a6], _ =>
    obtain ⟨x0, rfl⟩ := int_cell (v := a0) (by have := hfield 0 _ _ rfl; rw [oneI] at this; exact this)
    obtain ⟨x1, rfl⟩ := int_cell (v := a1) (by have := hfield 1 _ _ rfl; rw [oneI] at this; exact this)
    obtain ⟨y2, h2⟩ := hfield 2 _ _ rfl
    rw [five] at h2
    obtain ⟨j, Ap, cp, he, h4, h5, h6⟩ := job_cells h2
    simp only [List.drop_succ_cons, List.drop_zero, List.take_succ_cons, List.take_zero, List.cons.injEq, and_true] at he
    obtain ⟨rfl, rfl, rfl, rfl, rfl⟩ := he
    exact ⟨⟨x0, x1, j⟩, Ap, cp, rfl, h4, h5, h6⟩

theorem open_ops {W : World} {base : Nat} {v : Value} {d : DataW H} {ps : List MemPlace} (hv : Value.okWide Try.prog W .any base 38 v) (h : DataW.Trod enc Try.prog W 0 (fun _ => true) true 38 v d ps) :
    ∃ A n c, v = .slice A n c ∧ n ≤ c ∧ c ≤ maxLen ∧ Ops W W.heap.size A n := by
  obtain ⟨a0, len, cap, rfl⟩ := okWide_slice Try.underlying38 hv
  obtain ⟨fuel, hf⟩ := h
  rcases open_slice Try.underlying38 hf with ⟨hcs, _⟩ | ⟨a, len', cap', m, n, D, Pl, hcs, _, hl, hm, hmm, _, hx⟩
  · simp [Value.cells] at hcs
    obtain ⟨rfl, rfl, rfl⟩ := hcs
    exact ⟨_, _, _, rfl, Nat.le_refl _, Nat.zero_le _, fun i hi => absurd hi (by omega)⟩
  · simp [Value.cells] at hcs
    obtain ⟨rfl, rfl, rfl⟩ := hcs
    simp only [if_true] at hmm
    refine ⟨_, _, _, rfl, hl, hm, fun i hi => ?_⟩
    obtain ⟨cs, hc, hr⟩ := hx i (by omega)
    rw [seven] at hc
    obtain ⟨_, hlen, hcell⟩ := World.cells?_some hc
    obtain ⟨o, Ap, cp, rfl, h1, h2, h3⟩ := op_cells hr
    obtain ⟨b, off, spot⟩ := a
    have hspot : spot = none := by
      obtain ⟨cs0, hc0, _⟩ := hx 0 (by omega)
      rw [seven] at hc0
      obtain ⟨_, hl0, hcell0⟩ := World.cells?_some hc0
      have h0 := hcell0 0 (by omega)
      rw [List.getElem?_eq_getElem (by omega)] at h0
      have := World.cell?_spot h0
      simpa [Addr.add] using this
    subst hspot
    have hk : ∀ q v, q < 7 → ([.int .i64 o.d, .int .i64 o.c, .int .i64 o.j.k, .int .i64 o.j.l, .int .i64 o.j.u, .int .i64 o.j.p, .slice Ap o.j.d.length cp] : List Value)[q]? = some v → W.cell? ⟨b, off + i * 7 + q, none⟩ = some v := fun q v hq hv => by
      have := hcell q hq
      rw [add_plain, add_plain] at this
      rw [this]
      exact hv
    have c0 := hk 0 _ (by omega) rfl
    rw [Nat.add_zero] at c0
    exact ⟨b, off, o, Ap, cp, rfl, c0, hk 1 _ (by omega) rfl, hk 2 _ (by omega) rfl, hk 3 _ (by omega) rfl, hk 4 _ (by omega) rfl, hk 5 _ (by omega) rfl, hk 6 _ (by omega) rfl, cell_lt c0, h1, h2, h3⟩
end

end Go.Proofs.Ytkpneckgpolaoaa.QueueOps
