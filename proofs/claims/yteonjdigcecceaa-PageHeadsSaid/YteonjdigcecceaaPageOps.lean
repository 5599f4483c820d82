/-
  Arguments that are slices of slots, or slices of slices of bytes, opened.
-/
import Derived.Test.YteonjdigcecceaaPageMem
import Derived.OpenShut
import Derived.Deep.Slices
import Derived.Deep.Fields
namespace Go.Proofs.Yteonjdigcecceaa.PageOps
open Go.RowKit Go.ChangeShapes Go.WideShapes Go.Deep Page PagePkg
set_option maxRecDepth 4000

theorem fieldsSlot : ∃ fs : Array Field, Try.prog.underlying 42 = some (.struct fs) ∧ fs.map (fun f => (f.type, f.offset)) = #[(3, 0), (3, 1), (3, 2), (40, 3), (3, 4)] := ⟨_, Try.underlying42, by kernel_rfl⟩

theorem one3 : Try.prog.cellsOf 3 = 1 := by kernel_rfl
theorem one5 : Try.prog.cellsOf 5 = 1 := by kernel_rfl
theorem oneB : Try.prog.cellsOf 40 = 1 := by kernel_rfl
theorem five : Try.prog.cellsOf 42 = 5 := by kernel_rfl

section
variable {H : Type} {enc : TypeId × Value → H}

/-- A slice of bytes by its cell. -/
theorem bytes_cell {P : Program} {W : World} {t e : TypeId} {fuel : Nat} {V : Value} {x : DataW H × List MemPlace} (ht : P.underlying t = some (.slice e)) (he : P.underlying e = some (.int .u8)) (hc : P.cellsOf e = 1)
    (hf : DataW.trod enc P W 0 (fun _ => true) true fuel t [V] = some x) : ∃ A n c xs, V = .slice A n c ∧ n ≤ c ∧ c ≤ maxLen ∧ Bytes W W.heap.size A n xs := by
  rcases open_ints ht he hc hf with ⟨hcs, _⟩ | ⟨a, len, cap, zs, hcs, _, hl, hm, hz, _, hcell, hwz⟩
  · simp only [List.cons.injEq, and_true] at hcs
    exact ⟨none, 0, 0, [], hcs, Nat.le_refl _, Nat.zero_le _, rfl, fun i hi => absurd hi (by simp)⟩
  · simp only [List.cons.injEq, and_true] at hcs
    subst hcs
    simp only [if_true] at hz
    refine ⟨_, _, _, (zs.take len).map u8, rfl, hl, hm, by simp; omega, fun i hi => ?_⟩
    simp only [List.length_map, List.length_take] at hi
    have hi2 : i < zs.length := by omega
    have hci := hcell i hi2
    obtain ⟨b, off, spot⟩ := a
    have hspot : spot = none := by simpa [Addr.add] using World.cell?_spot (hcell 0 (by omega))
    subst hspot
    rw [add_plain] at hci
    refine ⟨b, off, rfl, cell_lt hci, ?_⟩
    rw [hci]
    have hg : zs.getD i 0 = zs[i] := by simp [List.getD, hi2]
    have hw := hwz zs[i] (List.getElem_mem hi2)
    rw [hg]
    simp only [List.getElem_map, List.getElem_take]
    rw [u8_of hw]

theorem field_of {W : World} {t : TypeId} {fuel : Nat} {cs : List Value} {x : DataW H × List MemPlace} {fs : Array Field} (hfs : Try.prog.underlying t = some (.struct fs)) (L : Array (TypeId × Nat)) (hmap : fs.map (fun f => (f.type, f.offset)) = L)
    (h : DataW.trod enc Try.prog W 0 (fun _ => true) true fuel t cs = some x) : cs.length = Try.prog.cellsOf t ∧ ∃ m, ∀ (i : Nat) (ty : TypeId) (off : Nat), L[i]? = some (ty, off) → ∃ y, DataW.trod enc Try.prog W 0 (fun _ => true) true m ty ((cs.drop off).take (Try.prog.cellsOf ty)) = some y := by
  obtain ⟨ys, m, _, _, hlen, hl, hx⟩ := DataW.trod_struct hfs h
  refine ⟨hlen, m, fun i ty off hi => ?_⟩
  rw [← hmap, Array.getElem?_map, Option.map_eq_some_iff] at hi
  obtain ⟨f, hf, he⟩ := hi
  injection he with h1 h2
  have h3 := hx i f hf
  have hiy : i < ys.length := by rw [hl]; exact (Array.getElem?_eq_some_iff.1 hf).1
  rw [h1, h2, List.getElem?_eq_getElem hiy] at h3
  exact ⟨_, h3⟩

theorem int_cell {W : World} {m : Nat} {v : Value} (hy : ∃ y, DataW.trod enc Try.prog W 0 (fun _ => true) true m 3 [v] = some y) : ∃ z : Int, v = .int .i64 z := by
  obtain ⟨y, hy⟩ := hy
  obtain ⟨z, hz, _, _⟩ := DataW.trod_int Try.underlying3 hy
  simp only [List.cons.injEq, and_true] at hz
  exact ⟨z, hz⟩

theorem slot_cells {W : World} {fuel : Nat} {cs : List Value} {x : DataW H × List MemPlace} (h : DataW.trod enc Try.prog W 0 (fun _ => true) true fuel 42 cs = some x) :
    ∃ (k l s f : Int) (xs : List UInt8) (Ap : Option Addr) (np cp : Nat), cs = [.int .i64 k, .int .i64 l, .int .i64 s, .slice Ap np cp, .int .i64 f] ∧ np ≤ cp ∧ cp ≤ maxLen ∧ Bytes W W.heap.size Ap np xs := by
  obtain ⟨fs, hfs, hmap⟩ := fieldsSlot
  obtain ⟨hlen, m, hfield⟩ := field_of hfs _ hmap h
  rw [five] at hlen
  match cs, hlen with
  | [a0, a1, a2, a3, a4], _ =>
    obtain ⟨k, rfl⟩ := int_cell (v := a0) (by have := hfield 0 _ _ rfl; rw [one3] at this; exact this)
    obtain ⟨l, rfl⟩ := int_cell (v := a1) (by have := hfield 1 _ _ rfl; rw [one3] at this; exact this)
    obtain ⟨s, rfl⟩ := int_cell (v := a2) (by have := hfield 2 _ _ rfl; rw [one3] at this; exact this)
    obtain ⟨f, rfl⟩ := int_cell (v := a4) (by have := hfield 4 _ _ rfl; rw [one3] at this; exact this)
    obtain ⟨y3, h3⟩ := hfield 3 _ _ rfl
    rw [oneB] at h3
    obtain ⟨Ap, np, cp, xs, he, h1, h2, h4⟩ := bytes_cell (V := a3) Try.underlying40 Try.underlying5 one5 h3
    subst he
    exact ⟨k, l, s, f, xs, Ap, np, cp, rfl, h1, h2, h4⟩

/-- A list chosen place by place. -/
theorem choose_list {α : Type} {n : Nat} {R : Nat → α → Prop} (h : ∀ i, i < n → ∃ x, R i x) : ∃ l : List α, l.length = n ∧ ∀ (i : Nat) x, l[i]? = some x → R i x := by
  induction n with
  | zero => exact ⟨[], rfl, fun i x hx => by simp at hx⟩
  | succ n ih =>
    obtain ⟨l, hl, hr⟩ := ih (fun i hi => h i (by omega))
    obtain ⟨y, hy⟩ := h n (Nat.lt_succ_self n)
    refine ⟨l ++ [y], by simp [hl], fun i x hx => ?_⟩
    rcases Nat.lt_or_ge i l.length with hi | hi
    · rw [List.getElem?_append_left hi] at hx
      exact hr i x hx
    · rw [List.getElem?_append_right hi] at hx
      have hz : i - l.length = 0 := by
        have := (List.getElem?_eq_some_iff.1 hx).1
        simp at this
        omega
      rw [hz] at hx
      simp at hx
      subst hx
      obtain rfl : i = n := by omega
      exact hy

theorem open_slots {W : World} {base : Nat} {v : Value} {d : DataW H} {ps : List MemPlace} (hv : Value.okWide Try.prog W .any base 22 v) (h : DataW.Trod enc Try.prog W 0 (fun _ => true) true 22 v d ps) :
    ∃ A n c ss, v = .slice A n c ∧ n ≤ c ∧ c ≤ maxLen ∧ Slots W W.heap.size A n ss := by
  obtain ⟨a0, len, cap, rfl⟩ := okWide_slice Try.underlying22 hv
  obtain ⟨fuel, hf⟩ := h
  rcases open_slice Try.underlying22 hf with ⟨hcs, _⟩ | ⟨a, len', cap', m, n, D, Pl, hcs, _, hl, hm, hmm, _, hx⟩
  · simp [Value.cells] at hcs
    obtain ⟨rfl, rfl, rfl⟩ := hcs
    exact ⟨_, _, _, [], rfl, Nat.le_refl _, Nat.zero_le _, rfl, fun i x hi => by simp at hi⟩
  · simp [Value.cells] at hcs
    obtain ⟨rfl, rfl, rfl⟩ := hcs
    simp only [if_true] at hmm
    obtain ⟨ss, hs1, hs2⟩ := choose_list (n := len) (R := fun i (x : Sl) => ∃ b off Ap cp, (some a : Option Addr) = some ⟨b, off, none⟩ ∧ SlAt W W.heap.size b (off + i * 5) x Ap cp) (fun i hi => by
      obtain ⟨cs, hc, hr⟩ := hx i (by omega)
      rw [five] at hc
      obtain ⟨_, hlen, hcell⟩ := World.cells?_some hc
      obtain ⟨k, l, s, f, xs, Ap, np, cp, rfl, h1, h2, h3⟩ := slot_cells hr
      obtain ⟨b, off, spot⟩ := a
      have hspot : spot = none := by
        obtain ⟨cs0, hc0, _⟩ := hx 0 (by omega)
        rw [five] at hc0
        obtain ⟨_, hl0, hcell0⟩ := World.cells?_some hc0
        have h0 := hcell0 0 (by omega)
        rw [List.getElem?_eq_getElem (by omega)] at h0
        have := World.cell?_spot h0
        simpa [Addr.add] using this
      subst hspot
      have hk : ∀ q v, q < 5 → ([.int .i64 k, .int .i64 l, .int .i64 s, .slice Ap np cp, .int .i64 f] : List Value)[q]? = some v → W.cell? ⟨b, off + i * 5 + q, none⟩ = some v := fun q v hq hv => by
        have := hcell q hq
        rw [add_plain, add_plain] at this
        rw [this]
        exact hv
      have c0 := hk 0 _ (by omega) rfl
      rw [Nat.add_zero] at c0
      have hn : np = xs.length := h3.1.symm
      subst hn
      exact ⟨⟨k, l, s, xs, f⟩, b, off, Ap, cp, rfl, c0, hk 1 _ (by omega) rfl, hk 2 _ (by omega) rfl, hk 3 _ (by omega) rfl, hk 4 _ (by omega) rfl, cell_lt c0, h1, h2, h3⟩)
    exact ⟨_, _, _, ss, rfl, hl, hm, hs1, hs2⟩

theorem open_bys {W : World} {base : Nat} {v : Value} {d : DataW H} {ps : List MemPlace} (hv : Value.okWide Try.prog W .any base 25 v) (h : DataW.Trod enc Try.prog W 0 (fun _ => true) true 25 v d ps) :
    ∃ A n c ls, v = .slice A n c ∧ n ≤ c ∧ c ≤ maxLen ∧ Bys W W.heap.size A n ls := by
  obtain ⟨a0, len, cap, rfl⟩ := okWide_slice Try.underlying25 hv
  obtain ⟨fuel, hf⟩ := h
  rcases open_slice Try.underlying25 hf with ⟨hcs, _⟩ | ⟨a, len', cap', m, n, D, Pl, hcs, _, hl, hm, hmm, _, hx⟩
  · simp [Value.cells] at hcs
    obtain ⟨rfl, rfl, rfl⟩ := hcs
    exact ⟨_, _, _, [], rfl, Nat.le_refl _, Nat.zero_le _, rfl, fun i x hi => by simp at hi⟩
  · simp [Value.cells] at hcs
    obtain ⟨rfl, rfl, rfl⟩ := hcs
    simp only [if_true] at hmm
    obtain ⟨ss, hs1, hs2⟩ := choose_list (n := len) (R := fun i (xs : List UInt8) => ∃ b off Ap cp, (some a : Option Addr) = some ⟨b, off, none⟩ ∧ b < W.heap.size ∧ W.cell? ⟨b, off + i, none⟩ = some (.slice Ap xs.length cp) ∧ xs.length ≤ cp ∧ cp ≤ maxLen ∧ Bytes W W.heap.size Ap xs.length xs) (fun i hi => by
      obtain ⟨cs, hc, hr⟩ := hx i (by omega)
      rw [oneB] at hc
      obtain ⟨_, hlen, hcell⟩ := World.cells?_some hc
      match cs, hlen with
      | [V], _ =>
        obtain ⟨Ap, np, cp, xs, rfl, h1, h2, h3⟩ := bytes_cell Try.underlying40 Try.underlying5 one5 hr
        have h0 := hcell 0 (by omega)
        obtain ⟨b, off, spot⟩ := a
        have hspot : spot = none := by
          obtain ⟨cs0, hc0, _⟩ := hx 0 (by omega)
          rw [oneB] at hc0
          obtain ⟨_, hl0, hcell0⟩ := World.cells?_some hc0
          have h0 := hcell0 0 (by omega)
          rw [List.getElem?_eq_getElem (by omega)] at h0
          have := World.cell?_spot h0
          simpa [Addr.add] using this
        subst hspot
        rw [add_plain, add_plain, Nat.mul_one, Nat.add_zero] at h0
        have h0' : W.cell? ⟨b, off + i, none⟩ = some (.slice Ap np cp) := h0
        have hn : np = xs.length := h3.1.symm
        subst hn
        exact ⟨xs, b, off, Ap, cp, rfl, cell_lt h0', h0', h1, h2, h3⟩)
    exact ⟨_, _, _, ss, rfl, hl, hm, hs1, hs2⟩
end

end Go.Proofs.Yteonjdigcecceaa.PageOps
