/-
  An array of bytes in a block of its own: what it holds, what a copy lays over it, loaded and laid whole; wire.Fixed as a slice that reads.
-/
import Derived.Test.YteonjdigcecceaaFixed
import Derived.BigQuiet
import Derived.Deep.RegionHeld
import Derived.Deep.RegionHeld3
import Derived.Laws.CopyOwn
namespace Go.Proofs.Yteonjdigcecceaa.OobPkg
open Go.RowKit Go.ChangeShapes Go.WideShapes
set_option maxRecDepth 4000

theorem cell_stays {w w' : World} {a : Addr} {v : Value} (hb : Below w.heap.size w w') (h : w.cell? a = some v) : w'.cell? a = some v :=
  (hb.cell (World.block_lt_of_cell? w a h)).trans h

theorem below_on {a w w' : World} (h : Below a.heap.size a w) (hb : Below w.heap.size w w') : Below a.heap.size a w' := h.trans (hb.mono h.size)

/-! ### wire.Fixed, as a slice that reads -/

theorem fixed_is (n : Int) (w : World) (h0 : 0 ≤ n) (h1 : n ≤ 4294967295) :
    Calls Try.prog 52 #[.int .u32 n] w fun e w' => ∃ A c, e = .returned (.slice A 4 c) ∧ Bytes w' w'.heap.size A 4 (Wire.fx n.toNat) ∧ Below w.heap.size w w' := by
  refine (fixed_any n w h0 h1).mono ?_
  rintro e w' ⟨v, rfl, ho, hb⟩
  obtain ⟨A, c, rfl, hr⟩ := ho.reads
  exact ⟨A, c, rfl, hr, hb⟩

theorem at_world {P : Program} {c : Code} {Q : Exit → Act → World → Prop} {a : Act} {W : World} (h : ∀ X, X = W → Code.wp P c Q a X) : Code.wp P c Q a W := h W rfl

theorem size8 : (Try.prog.info? 5).map (·.size) = some 1 := by kernel_rfl

/-! ### An array of bytes in a block of its own -/

/-- The block g is an array of the bytes xs. -/
def Arr (w : World) (g : Nat) (t : TypeId) (xs : List UInt8) : Prop := w.heap[g]? = some (.cells (xs.map cellOf).toArray t (0, 0))

theorem Arr.lt {w : World} {g : Nat} {t : TypeId} {xs : List UInt8} (h : Arr w g t xs) : g < w.heap.size := (Array.getElem?_eq_some_iff.1 h).1

theorem Arr.keep {w w' : World} {g : Nat} {t : TypeId} {xs : List UInt8} (h : Arr w g t xs) (hb : Below w.heap.size w w') : Arr w' g t xs := (hb.block g h.lt).trans h

theorem Arr.cell {w : World} {g : Nat} {t : TypeId} {xs : List UInt8} (h : Arr w g t xs) {i : Nat} {x : UInt8} (hx : xs[i]? = some x) : w.cell? ⟨g, i, none⟩ = some (.int .u8 (x.toNat : Int)) := by
  simp only [World.cell?, show w.heap[g]? = _ from h]
  simp [hx, cellOf]

theorem Arr.free {w : World} {g : Nat} {t : TypeId} {xs : List UInt8} (h : Arr w g t xs) (i : Nat) : w.frozen? ⟨g, i, none⟩ = false := by
  simp [World.frozen?, show w.heap[g]? = _ from h]

/-- A part of it, as a slice. -/
theorem Arr.bytes {w : World} {g : Nat} {t : TypeId} {xs : List UInt8} (h : Arr w g t xs) (i : Nat) : Bytes w w.heap.size (some ⟨g, i, none⟩) (xs.length - i) (xs.drop i) := by
  refine ⟨by simp, fun j hj => ⟨g, i, rfl, h.lt, ?_⟩⟩
  simp at hj
  exact h.cell (by simp)

/-- One byte of it laid anew. -/
theorem Arr.set {w : World} {g : Nat} {t : TypeId} {xs : List UInt8} (h : Arr w g t xs) (i : Nat) (y : UInt8) : Arr (w.setCell ⟨g, i, none⟩ (.int .u8 (y.toNat : Int))) g t (xs.set i y) := by
  unfold Arr
  simp only [World.setCell, Array.getElem?_modify, show w.heap[g]? = _ from h]
  simp [List.map_set, cellOf]

theorem Arr.new (w : World) (t : TypeId) (xs : List UInt8) : Arr (w.alloc (.cells (xs.map cellOf).toArray t)) w.heap.size t xs := heap_alloc_new w _

theorem Arr.old {w : World} {g : Nat} {t : TypeId} {xs : List UInt8} (h : Arr w g t xs) (o : Obj) : Arr (w.alloc o) g t xs := h.keep ((Below.refl _ _).alloc (Nat.le_refl _) _)

/-- What a copy of bytes lays over it. -/
def over (xs : List UInt8) (i : Nat) (ys : List UInt8) : List UInt8 := xs.take i ++ (ys ++ xs.drop (i + ys.length))

theorem splice_map (xs : List UInt8) (i : Nat) (ys : List UInt8) : splice (xs.map cellOf) i (ys.map cellOf) = (over xs i ys).map cellOf := by
  simp [splice, over, List.map_append, List.map_take, List.map_drop]

theorem Arr.of_copy {w : World} {g : Nat} {t : TypeId} {xs ys : List UInt8} {i : Nat} (h : Hid (w.heap[g]? = some (.cells (splice (xs.map cellOf) i (ys.map cellOf)).toArray t (0, 0)))) : Arr w g t (over xs i ys) := by
  have e := h.out
  rw [splice_map] at e
  exact e

theorem Arr.keepd {w w' : World} {g : Nat} {t : TypeId} {xs : List UInt8} (h : Arr w g t xs) (hb : Below w.drew.heap.size w.drew w') : Arr w' g t xs := Arr.keep (w := w.drew) h hb

theorem below_ond {M : Nat} {X w w' : World} (h : Below M X w) (hm : M ≤ w.heap.size) (hb : Below w.drew.heap.size w.drew w') : Below M X w' := h.drew.trans (hb.mono hm)

theorem over_len {xs ys : List UInt8} {i : Nat} (h : i + ys.length ≤ xs.length) : (over xs i ys).length = xs.length := by
  simp [over]
  omega

theorem cells_one (ys : List UInt8) : ∀ v ∈ ys.map cellOf, v.oneCell' = true := by
  intro v hv
  obtain ⟨y, _, rfl⟩ := List.mem_map.1 hv
  rfl

/-- What a copy onto an array asks of its source. -/
theorem src_ok {w : World} {M i : Nat} {A : Option Addr} {n : Nat} {ys : List UInt8} (hy : 0 < n) (hr : Bytes w w.heap.size A n ys) :
    0 < (ys.map cellOf).length → (some ⟨M, i, none⟩ : Option Addr) = some ⟨M, i, none⟩ ∧ ∃ ad, A = some ad ∧ ∀ j v, (ys.map cellOf)[j]? = some v → w.cell? (ad.add j) = some v := by
  intro _
  refine ⟨rfl, ?_⟩
  obtain ⟨b, off, x, rfl, _⟩ := hr.at_ hy
  exact ⟨_, rfl, cells_of hr⟩

theorem fx_len (n : Nat) : (Wire.fx n).length = 4 := rfl
theorem fx_cells (n : Nat) : ((Wire.fx n).map cellOf).length = 4 := rfl

/-- The same where the source is an array. -/
theorem src_arr {w w' : World} {t : TypeId} {M C i : Nat} {m : List UInt8} (h : Arr w M t m) (n : Nat) (hw : w'.heap = w.heap := by rfl) :
    0 < ((m.take n).map cellOf).length → (some ⟨C, i, none⟩ : Option Addr) = some ⟨C, i, none⟩ ∧ ∃ ad, (some ⟨M, 0, none⟩ : Option Addr) = some ad ∧ ∀ j v, ((m.take n).map cellOf)[j]? = some v → w'.cell? (ad.add j) = some v := by
  intro _
  refine ⟨rfl, _, rfl, fun j v hv => ?_⟩
  rw [add_plain, Nat.zero_add]
  rw [List.getElem?_map] at hv
  obtain ⟨x, hx, rfl⟩ := Option.map_eq_some_iff.1 hv
  have h' : Arr w' M t m := by
    unfold Arr
    rw [hw]
    exact h
  refine h'.cell ?_
  rw [List.getElem?_take] at hx
  split at hx
  · exact hx
  · cases hx

/-- The whole array by value, as the walk leaves it. -/
theorem run_load_arr {P : Program} {w : World} {g n : Nat} {t : TypeId} {xs : List UInt8} (h : Arr w g t xs) (hn : xs.length = n) :
    (loadCellsFrom ⟨g, 0, none⟩ 0 n #[]).run P w = .ok (xs.map cellOf).toArray w := by
  have hl := run_loadCells_list (P := P) w ⟨g, 0, none⟩ (xs.map cellOf) (fun j v hv => by
    rw [add_plain, Nat.zero_add]
    rw [List.getElem?_map] at hv
    obtain ⟨x, hx, rfl⟩ := Option.map_eq_some_iff.1 hv
    exact h.cell hx)
  rw [List.length_map, hn] at hl
  exact hl

/-- A whole array laid by value, as the walk leaves it. -/
theorem run_store_arr {P : Program} {w : World} {g : Nat} {t : TypeId} {xs ys : List UInt8} (h : Arr w g t xs) (hn : ys.length = xs.length) :
    ∃ w', (storeCells ⟨g, 0, none⟩ (ys.map cellOf).toArray.toList).run P w = .ok () w' ∧ Arr w' g t ys ∧ Below g w w' := by
  have e := run_storeCells_from (P := P) g t (ys.map cellOf) 0 _ w h (by simp; omega) (cells_one ys)
  refine ⟨_, e, ?_, below_setRow (Below.refl g w) (Nat.le_refl _) _⟩
  have h2 := setRow_heap w g _ (((xs.map cellOf).toArray.toList.take 0 ++ ys.map cellOf).toArray) t (0, 0) h
  simpa [Arr] using h2

end Go.Proofs.Yteonjdigcecceaa.OobPkg
