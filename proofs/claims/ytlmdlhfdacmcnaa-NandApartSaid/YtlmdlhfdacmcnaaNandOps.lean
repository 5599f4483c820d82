/-
  Ops in memory that came in: an argument that is a slice of them.
-/
import Derived.Test.YtlmdlhfdacmcnaaNandKit
import Derived.Test.YtlmdlhfdacmcnaaStructs
import Derived.Deep.Slices
import Derived.OpenShut
namespace Go.Proofs.Ytlmdlhfdacmcnaa.NandOps
open Go.RowKit Go.ChangeShapes Go.WideShapes Go.Deep
set_option maxRecDepth 4000

/-- An op's seven cells. -/
structure OpAt (w : World) (B : Nat) (b o : Nat) (x0 x1 x2 x3 x4 : Int) (odd : Bool) (xs : List UInt8) (Ap : Option Addr) (np cp : Nat) : Prop where
  c0 : w.cell? ⟨b, o, none⟩ = some (.int .i64 x0)
  c1 : w.cell? ⟨b, o + 1, none⟩ = some (.int .i64 x1)
  c2 : w.cell? ⟨b, o + 2, none⟩ = some (.int .i64 x2)
  c3 : w.cell? ⟨b, o + 3, none⟩ = some (.int .i64 x3)
  c4 : w.cell? ⟨b, o + 4, none⟩ = some (.int .i64 x4)
  c5 : w.cell? ⟨b, o + 5, none⟩ = some (.bool odd)
  c6 : w.cell? ⟨b, o + 6, none⟩ = some (.slice Ap np cp)
  lt : b < B
  fit : np ≤ cp
  top : cp ≤ maxLen
  plan : Bytes w B Ap np xs

/-- A slice of ops that came in. -/
def Ops (w : World) (B : Nat) (A : Option Addr) (n : Nat) : Prop :=
  ∀ i, i < n → ∃ b off x0 x1 x2 x3 x4 odd xs Ap np cp, A = some ⟨b, off, none⟩ ∧ OpAt w B b (off + i * 7) x0 x1 x2 x3 x4 odd xs Ap np cp

theorem OpAt.keep {w w' : World} {B b o : Nat} {x0 x1 x2 x3 x4 : Int} {odd : Bool} {xs : List UInt8} {Ap : Option Addr} {np cp : Nat} (h : OpAt w B b o x0 x1 x2 x3 x4 odd xs Ap np cp) (hk : Below B w w') : OpAt w' B b o x0 x1 x2 x3 x4 odd xs Ap np cp := by
  have hb : ∀ i v, w.cell? ⟨b, i, none⟩ = some v → w'.cell? ⟨b, i, none⟩ = some v := fun i v hv => (World.cell?_of_block (w := w) (hk.block b h.lt)).trans hv
  exact ⟨hb _ _ h.c0, hb _ _ h.c1, hb _ _ h.c2, hb _ _ h.c3, hb _ _ h.c4, hb _ _ h.c5, hb _ _ h.c6, h.lt, h.fit, h.top, bytes_keep h.plan hk⟩

theorem Ops.keep {w w' : World} {B : Nat} {A : Option Addr} {n : Nat} (h : Ops w B A n) (hk : Below B w w') : Ops w' B A n := fun i hi => by
  obtain ⟨b, off, x0, x1, x2, x3, x4, odd, xs, Ap, np, cp, e, ho⟩ := h i hi
  exact ⟨b, off, x0, x1, x2, x3, x4, odd, xs, Ap, np, cp, e, ho.keep hk⟩

theorem fieldsOp : ∃ fs : Array Field, Try.prog.underlying 49 = some (.struct fs) ∧ fs.map (fun f => (f.type, f.offset)) = #[(3, 0), (3, 1), (3, 2), (3, 3), (3, 4), (4, 5), (47, 6)] := ⟨_, Try.underlying49, by kernel_rfl⟩

theorem one3 : Try.prog.cellsOf 3 = 1 := by kernel_rfl
theorem one4 : Try.prog.cellsOf 4 = 1 := by kernel_rfl
theorem one5 : Try.prog.cellsOf 5 = 1 := by kernel_rfl
theorem one47 : Try.prog.cellsOf 47 = 1 := by kernel_rfl
theorem seven : Try.prog.cellsOf 49 = 7 := by kernel_rfl

section
variable {H : Type} {enc : TypeId × Value → H}

/-- A slice of bytes by its cell. -/
theorem bytes_cell {P : Program} {W : World} {t e : TypeId} {fuel : Nat} {V : Value} {x : DataW H × List MemPlace} (ht : P.underlying t = some (.slice e)) (he : P.underlying e = some (.int .u8)) (hc : P.cellsOf e = 1)
    (hf : DataW.trod enc P W 0 (fun _ => true) true fuel t [V] = some x) : ∃ A n c xs, V = .slice A n c ∧ n ≤ c ∧ c ≤ maxLen ∧ Bytes W W.heap.size A n xs := by
  rcases open_ints ht he hc hf with ⟨hcs, _⟩ | ⟨a, len, cap, zs, hcs, _, hl, hm, hz, _, hcell, hwz⟩
  · simp only [List.cons.injEq, and_true] at hcs
    exact ⟨none, 0, 0, [], hcs, Nat.le_refl _, Nat.zero_le _, rfl, fun i hi => absurd hi (by simp)⟩
  · simp only [List.cons.injEq, and_true] at hcs
    subst hcs
    simp only [if_true] at hz
    refine ⟨_, _, _, (zs.take len).map u8, rfl, hl, hm, by simp; omega, fun i hi => ?_⟩
    simp only [List.length_map, List.length_take] at hi
    have hi2 : i < zs.length := by omega
    have hci := hcell i hi2
    obtain ⟨b, off, spot⟩ := a
    have hspot : spot = none := by simpa [Addr.add] using World.cell?_spot (hcell 0 (by omega))
    subst hspot
    rw [add_plain] at hci
    refine ⟨b, off, rfl, cell_lt hci, ?_⟩
    rw [hci]
    have hg : zs.getD i 0 = zs[i] := by simp [List.getD, hi2]
    have hw := hwz zs[i] (List.getElem_mem hi2)
    rw [hg]
    simp only [List.getElem_map, List.getElem_take]
    rw [u8_of hw]

/-- Seven cells that read as an op. -/
theorem op_cells {W : World} {fuel : Nat} {cs : List Value} {x : DataW H × List MemPlace} (h : DataW.trod enc Try.prog W 0 (fun _ => true) true fuel 49 cs = some x) :
    ∃ (x0 x1 x2 x3 x4 : Int) (odd : Bool) (xs : List UInt8) (Ap : Option Addr) (np cp : Nat), cs = [.int .i64 x0, .int .i64 x1, .int .i64 x2, .int .i64 x3, .int .i64 x4, .bool odd, .slice Ap np cp] ∧ np ≤ cp ∧ cp ≤ maxLen ∧ Bytes W W.heap.size Ap np xs := by
  obtain ⟨fs, hfs, hmap⟩ := fieldsOp
  obtain ⟨ys, m, _, _, hlen, hl, hx⟩ := DataW.trod_struct hfs h
  rw [seven] at hlen
  have hsz : fs.size = 7 := by have := congrArg Array.size hmap; simpa using this
  have hfield : ∀ i ty off, (#[(3, 0), (3, 1), (3, 2), (3, 3), (3, 4), (4, 5), (47, 6)] : Array (TypeId × Nat))[i]? = some (ty, off) → ∃ y, DataW.trod enc Try.prog W 0 (fun _ => true) true m ty ((cs.drop off).take (Try.prog.cellsOf ty)) = some y := fun i ty off hi => by
    rw [← hmap, Array.getElem?_map, Option.map_eq_some_iff] at hi
    obtain ⟨f, hf, he⟩ := hi
    injection he with h1 h2
    have h3 := hx i f hf
    have hiy : i < ys.length := by rw [hl]; exact (Array.getElem?_eq_some_iff.1 hf).1
    rw [h1, h2, List.getElem?_eq_getElem hiy] at h3
    exact ⟨_, h3⟩
  match cs, hlen with
  | [a0, a1, a2, a3, a4, a5, a6], _ =>
    have hint : ∀ i v, (∃ y, DataW.trod enc Try.prog W 0 (fun _ => true) true m 3 (([a0, a1, a2, a3, a4, a5, a6].drop i).take (Try.prog.cellsOf 3)) = some y) → ([a0, a1, a2, a3, a4, a5, a6].drop i).take 1 = [v] → ∃ z : Int, v = .int .i64 z := fun i v hy hv => by
      obtain ⟨y, hy⟩ := hy
      rw [one3, hv] at hy
      obtain ⟨z, hz, _, _⟩ := DataW.trod_int Try.underlying3 hy
      simp only [List.cons.injEq, and_true] at hz
      exact ⟨z, hz⟩
    obtain ⟨x0, rfl⟩ := hint 0 a0 (hfield 0 _ _ rfl) rfl
    obtain ⟨x1, rfl⟩ := hint 1 a1 (hfield 1 _ _ rfl) rfl
    obtain ⟨x2, rfl⟩ := hint 2 a2 (hfield 2 _ _ rfl) rfl
    obtain ⟨x3, rfl⟩ := hint 3 a3 (hfield 3 _ _ rfl) rfl
    obtain ⟨x4, rfl⟩ := hint 4 a4 (hfield 4 _ _ rfl) rfl
    obtain ⟨y5, h5⟩ := hfield 5 _ _ rfl
    rw [one4] at h5
    obtain ⟨odd, ho, _⟩ := DataW.trod_bool Try.underlying4 h5
    obtain ⟨y6, h6⟩ := hfield 6 _ _ rfl
    rw [one47] at h6
    obtain ⟨Ap, np, cp, xs, he, h1, h2, h3⟩ := bytes_cell (V := a6) Try.underlying47 Try.underlying5 one5 h6
    have ho' : a5 = .bool odd := by simpa using ho
    subst ho' he
    exact ⟨x0, x1, x2, x3, x4, odd, xs, Ap, np, cp, rfl, h1, h2, h3⟩

theorem open_ops {W : World} {base : Nat} {v : Value} {d : DataW H} {ps : List MemPlace} (hv : Value.okWide Try.prog W .any base 45 v) (h : DataW.Trod enc Try.prog W 0 (fun _ => true) true 45 v d ps) :
    ∃ A n c, v = .slice A n c ∧ n ≤ c ∧ c ≤ maxLen ∧ Ops W W.heap.size A n := by
  obtain ⟨a0, len, cap, rfl⟩ := okWide_slice Try.underlying45 hv
  obtain ⟨fuel, hf⟩ := h
  rcases open_slice Try.underlying45 hf with ⟨hcs, _⟩ | ⟨a, len', cap', m, n, D, Pl, hcs, _, hl, hm, hmm, _, hx⟩
  · simp [Value.cells] at hcs
    obtain ⟨rfl, rfl, rfl⟩ := hcs
    exact ⟨_, _, _, rfl, Nat.le_refl _, Nat.zero_le _, fun i hi => absurd hi (by omega)⟩
  · simp [Value.cells] at hcs
    obtain ⟨rfl, rfl, rfl⟩ := hcs
    simp only [if_true] at hmm
    refine ⟨_, _, _, rfl, hl, hm, fun i hi => ?_⟩
    obtain ⟨cs, hc, hr⟩ := hx i (by omega)
    rw [seven] at hc
    obtain ⟨_, hlen, hcell⟩ := World.cells?_some hc
    obtain ⟨x0, x1, x2, x3, x4, odd, xs, Ap, np, cp, rfl, h1, h2, h3⟩ := op_cells hr
    obtain ⟨b, off, spot⟩ := a
    have hspot : spot = none := by
      obtain ⟨cs0, hc0, _⟩ := hx 0 (by omega)
      rw [seven] at hc0
      obtain ⟨_, hl0, hcell0⟩ := World.cells?_some hc0
      have h0 := hcell0 0 (by omega)
      rw [List.getElem?_eq_getElem (by omega)] at h0
      have := World.cell?_spot h0
      simpa [Addr.add] using this
    subst hspot
    have hk : ∀ q v, q < 7 → ([.int .i64 x0, .int .i64 x1, .int .i64 x2, .int .i64 x3, .int .i64 x4, .bool odd, .slice Ap np cp] : List Value)[q]? = some v → W.cell? ⟨b, off + i * 7 + q, none⟩ = some v := fun q v hq hv => by
      have := hcell q hq
      rw [add_plain, add_plain] at this
      rw [this]
      exact hv
    have c0 := hk 0 _ (by omega) rfl
    rw [Nat.add_zero] at c0
    exact ⟨b, off, x0, x1, x2, x3, x4, odd, xs, Ap, np, cp, rfl, c0, hk 1 _ (by omega) rfl, hk 2 _ (by omega) rfl, hk 3 _ (by omega) rfl, hk 4 _ (by omega) rfl, hk 5 _ (by omega) rfl, hk 6 _ (by omega) rfl, cell_lt c0, h1, h2, h3⟩
theorem open_op {W : World} {base : Nat} {v : Value} {d : DataW H} {ps : List MemPlace} (hv : Value.okWide Try.prog W .any base 49 v) (h : DataW.Trod enc Try.prog W 0 (fun _ => true) true 49 v d ps) :
    ∃ (x0 x1 x2 x3 x4 : Int) (odd : Bool) (Ap : Option Addr) (np cp : Nat) (xs : List UInt8), v = .agg #[.int .i64 x0, .int .i64 x1, .int .i64 x2, .int .i64 x3, .int .i64 x4, .bool odd, .slice Ap np cp] ∧ np ≤ cp ∧ cp ≤ maxLen ∧ Bytes W W.heap.size Ap np xs := by
  obtain ⟨⟨l⟩, rfl, _⟩ := okWide_struct Try.underlying49 hv
  obtain ⟨fuel, hf⟩ := h
  have hcells : (Value.agg l.toArray).cells.toList = l := by simp [Value.cells]
  rw [hcells] at hf
  obtain ⟨x0, x1, x2, x3, x4, odd, xs, Ap, np, cp, rfl, h1, h2, h3⟩ := op_cells hf
  exact ⟨x0, x1, x2, x3, x4, odd, Ap, np, cp, xs, rfl, h1, h2, h3⟩
end

end Go.Proofs.Ytlmdlhfdacmcnaa.NandOps
