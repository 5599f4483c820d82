/-
  A slice of rows of several cells each (structs) that the call itself has made, of which the first ones may have been cut off: it begins at some cell of its block. What it reads as, a cell laid anew, a row more, the first row gone. Nothing of the program's code is named here.
-/
import Derived.Test.YtkpneckgpolaoaaRowsOwn
namespace Go.Proofs.Ytkpneckgpolaoaa
open Go.RowKit Go.ChangeShapes Go.WideShapes

/-- The slice v, of the element type e of sz cells, is the call's own, from block base on, and its rows are cs. -/
structure OffR (w : World) (base : Nat) (e : TypeId) (sz : Nat) (v : Value) (cs : List (List Value)) : Prop where
  row : (v = .slice none 0 0 ∧ cs = []) ∨ ∃ g off cap cur, v = .slice (some ⟨g, off, none⟩) cs.length cap ∧ base ≤ g ∧ w.heap[g]? = some (.cells cur e (0, 0)) ∧ cs.length ≤ cap ∧ cap ≤ maxLen ∧ off + cap * sz ≤ cur.size ∧ (cur.toList.drop off).take (cs.length * sz) = cs.flatten
  all : ∀ c ∈ cs, c.length = sz

section
variable {w w' : World} {base : Nat} {e : TypeId} {sz : Nat} {v : Value} {cs : List (List Value)}

theorem offR_nil (w : World) (base : Nat) (e : TypeId) (sz : Nat) : OffR w base e sz (.slice none 0 0) [] := ⟨.inl ⟨rfl, rfl⟩, fun c hc => by simp at hc⟩

theorem OwnR.off (h : OwnR w base e sz v cs) : OffR w base e sz v cs := by
  refine ⟨?_, h.all⟩
  rcases h.row.2 with ⟨h1, h2⟩ | ⟨g, cap, cur, h1, h2, h3, h4, h5, h6, h7⟩
  · exact .inl ⟨h1, List.eq_nil_of_length_eq_zero h2⟩
  · exact .inr ⟨g, 0, cap, cur, h1, h2, h3, h4, h5, by omega, by rw [List.drop_zero]; exact h7⟩

theorem OffR.lt (h : OffR w base e sz v cs) : ∀ k, v.ownBlock = some k → k < w.heap.size := by
  intro k hk
  rcases h.row with ⟨rfl, _⟩ | ⟨g, off, cap, cur, rfl, _, hh, _⟩
  · simp [Value.ownBlock] at hk
  · simp [Value.ownBlock] at hk
    subst hk
    exact (Array.getElem?_eq_some_iff.1 hh).1

theorem OffR.block (h : OffR w base e sz v cs) : ∀ k, v.ownBlock = some k → base ≤ k := by
  intro k hk
  rcases h.row with ⟨rfl, _⟩ | ⟨g, off, cap, cur, rfl, hg, _⟩
  · simp [Value.ownBlock] at hk
  · simp [Value.ownBlock] at hk
    omega

theorem OffR.keep (h : OffR w base e sz v cs) (hk : ∀ k, v.ownBlock = some k → w'.heap[k]? = w.heap[k]?) : OffR w' base e sz v cs := by
  refine ⟨?_, h.all⟩
  rcases h.row with h0 | ⟨g, off, cap, cur, rfl, hg, hh, r⟩
  · exact .inl h0
  · exact .inr ⟨g, off, cap, cur, rfl, hg, (hk g rfl).trans hh, r⟩

theorem OffR.alloc (h : OffR w base e sz v cs) (o : Obj) : OffR (w.alloc o) base e sz v cs := h.keep fun k hk => Below.heap_alloc w o k (h.lt k hk)

theorem OffR.below (h : OffR w base e sz v cs) (hb : Below w.heap.size w w') : OffR w' base e sz v cs := h.keep fun k hk => hb.block k (h.lt k hk)

theorem OffR.form (h : OffR w base e sz v cs) : ∃ A c, v = .slice A cs.length c ∧ cs.length ≤ c ∧ c ≤ maxLen ∧ (0 < cs.length → ∃ g off, A = some ⟨g, off, none⟩) := by
  rcases h.row with ⟨rfl, rfl⟩ | ⟨g, off, cap, cur, rfl, _, _, hnc, hcm, _⟩
  · exact ⟨none, 0, rfl, Nat.le_refl _, Nat.zero_le _, fun h => by simp at h⟩
  · exact ⟨_, _, rfl, hnc, hcm, fun _ => ⟨g, off, rfl⟩⟩

/-- Its cells. -/
theorem OffR.cell {g off n c : Nat} (h : OffR w base e sz (.slice (some ⟨g, off, none⟩) n c) cs) {i j : Nat} {r : List Value} {x : Value} (hr : cs[i]? = some r) (hx : r[j]? = some x) :
    w.cell? ⟨g, off + i * sz + j, none⟩ = some x ∧ w.frozen? ⟨g, off + i * sz + j, none⟩ = false := by
  have hsz := h.all r (List.mem_of_getElem? hr)
  have hj : j < sz := by have := (List.getElem?_eq_some_iff.1 hx).1; omega
  rcases h.row with ⟨hv, _⟩ | ⟨g', off', cap', cur, hv, _, hg, hnc, _, hcs, ht⟩
  · cases hv
  · injection hv with h1
    injection h1 with h1
    injection h1 with h1 h2
    subst h1 h2
    have hi : i < cs.length := (List.getElem?_eq_some_iff.1 hr).1
    have hlt : i * sz + j < cs.length * sz := by
      have : (i + 1) * sz ≤ cs.length * sz := Nat.mul_le_mul_right _ hi
      rw [Nat.add_mul] at this
      omega
    have e1 : ((cur.toList.drop off).take (cs.length * sz))[i * sz + j]? = some x := by rw [ht, flat_at cs h.all i j hj, hr]; exact hx
    rw [List.getElem?_take, if_pos hlt, List.getElem?_drop, Array.getElem?_toList, ← Nat.add_assoc] at e1
    exact ⟨by simp only [World.cell?, hg]; exact e1, by simp [World.frozen?, hg]⟩

/-- A cell laid anew. -/
theorem OffR.set {g off n c : Nat} (h : OffR w base e sz (.slice (some ⟨g, off, none⟩) n c) cs) (i j : Nat) (hj : j < sz) (x : Value) :
    OffR (w.setCell ⟨g, off + i * sz + j, none⟩ x) base e sz (.slice (some ⟨g, off, none⟩) n c) (cs.modify i (·.set j x)) := by
  have hall : ∀ d ∈ cs.modify i (·.set j x), d.length = sz := by
    intro d hd
    obtain ⟨k, hk⟩ := List.getElem?_of_mem hd
    rw [List.getElem?_modify] at hk
    cases hck : cs[k]? with
    | none => rw [hck] at hk; cases hk
    | some r =>
      rw [hck] at hk
      have hr := h.all r (List.mem_of_getElem? hck)
      injection hk with hk
      split at hk
      · rw [← hk, List.length_set, hr]
      · rw [← hk, hr]
  rcases h.row with ⟨hv, _⟩ | ⟨g', off', cap', cur, hv, hb, hg, hnc, hcm, hcs, ht⟩
  · cases hv
  · injection hv with h1 h2 h3
    injection h1 with h1
    injection h1 with h1 h4
    subst h1 h2 h3 h4
    refine ⟨.inr ⟨g, off, c, cur.setIfInBounds (off + i * sz + j) x, by rw [List.length_modify], hb, ?_, by rw [List.length_modify]; exact hnc, hcm, by rw [Array.size_setIfInBounds]; exact hcs, ?_⟩, hall⟩
    · simp [World.setCell, Array.getElem?_modify, hg]
    · have e2 : (cur.setIfInBounds (off + i * sz + j) x).toList = cur.toList.set (off + i * sz + j) x := by simp
      rw [e2, List.length_modify, List.drop_set, if_neg (by omega), show off + i * sz + j - off = i * sz + j by omega, List.take_set, ht, flat_set cs h.all i j hj]

/-- The first row laid anew, whatever with, and cut off. -/
theorem OffR.rest {g off n c : Nat} (h : OffR w base e sz (.slice (some ⟨g, off, none⟩) n c) cs) (h0 : 0 < cs.length) {cur' : Array Value} {A : Option Addr}
    (hA : A = some ⟨g, if c = 1 then off else off + sz, none⟩) (hh : w'.heap[g]? = some (.cells cur' e (0, 0))) (hk : ∀ cur, w.heap[g]? = some (.cells cur e (0, 0)) → cur'.size = cur.size ∧ ∀ i, off + sz ≤ i → cur'[i]? = cur[i]?) :
    OffR w' base e sz (.slice A (n - 1) (c - 1)) (cs.drop 1) := by
  subst hA
  have hall : ∀ d ∈ cs.drop 1, d.length = sz := fun d hd => h.all d (List.mem_of_mem_drop hd)
  rcases h.row with ⟨hv, _⟩ | ⟨g', off', cap', cur, hv, hb, hg, hnc, hcm, hcs, ht⟩
  · cases hv
  · injection hv with h1 h2 h3
    injection h1 with h1
    injection h1 with h1 h4
    subst h1 h2 h3 h4
    obtain ⟨hs, hkk⟩ := hk cur hg
    have hcs1 : cs.length * sz = (cs.drop 1).length * sz + sz := by rw [List.length_drop, ← Nat.succ_mul]; congr 1; omega
    have hc1 : c * sz = (c - 1) * sz + sz := by rw [← Nat.succ_mul]; congr 1; omega
    refine ⟨.inr ⟨g, _, c - 1, cur', by rw [List.length_drop], hb, hh, by rw [List.length_drop]; omega, by omega, ?_, ?_⟩, hall⟩
    · rw [hs]
      split
      · rename_i e1
        subst e1
        simp at hcs ⊢
        omega
      · omega
    · have hf : (cs.drop 1).flatten = ((cur.toList.drop off).take (cs.length * sz)).drop sz := by
        rw [ht]
        have := flat_drop cs h.all 1
        rw [Nat.one_mul] at this
        exact this.symm
      rw [hf, List.drop_take, List.drop_drop, show cs.length * sz - sz = (cs.drop 1).length * sz by omega]
      by_cases hc : c = 1
      · have hz : (cs.drop 1).length = 0 := by rw [List.length_drop]; omega
        rw [hz, Nat.zero_mul, List.take_zero, List.take_zero]
      · rw [if_neg hc]
        congr 1
        apply List.ext_getElem?
        intro i
        rw [List.getElem?_drop, List.getElem?_drop, Array.getElem?_toList, Array.getElem?_toList, hkk _ (by omega)]
end

section
variable {P : Program} (w : World)

/-- append(own, x), x a row, the new block of one just laid. -/
theorem run_append_off (base : Nat) (t ty e : TypeId) (sz bytes : Nat) (hs0 : 0 < sz) (hb0 : bytes ≤ 1000) (ht : P.underlying t = some (.slice e)) (hi : rowInfo P e sz bytes) (v : Value) (cs : List (List Value)) (hown : OffR w base e sz v cs)
    (r : List Value) (hr : r.length = sz) (h1 : ∀ u ∈ r, u.oneCell' = true) (hlen : cs.length ≤ 1000000000) (hbase : base ≤ w.heap.size) :
    ∃ v' w', (Builtin.append_ #[t, t] ty #[v, .slice (some ⟨w.heap.size, 0, none⟩) 1 1]).run P (w.alloc (.cells r.toArray e)) = .ok v' w' ∧ OffR w' base e sz v' (cs ++ [r]) ∧ (w.alloc (.cells r.toArray e)).grownBy w' v.ownBlock ∧ (∀ b, v'.ownBlock = some b → v.ownBlock = some b ∨ w.heap.size < b) := by
  rcases hown.row with ⟨rfl, rfl⟩ | ⟨g, off, cap, cur, rfl, hb, hg, hnc, hcm, hcs, htk⟩
  · obtain ⟨v', w', h2, h3, h4, h5⟩ := run_append_row (P := P) w base t ty e sz bytes hs0 hb0 ht hi (.slice none 0 0) [] (ownR_nil w base e sz) r hr h1 (by simp) hbase
    exact ⟨v', w', h2, h3.off, h4, h5⟩
  · obtain ⟨i, z, hi, hz, hsz, hby, hzs⟩ := hi
    have hmx : (140737488355328 : Nat) ≤ maxLen := by decide
    have hsz1 : (w.alloc (.cells r.toArray e)).heap.size = w.heap.size + 1 := by simp
    have hg1 : (w.alloc (.cells r.toArray e)).heap[g]? = some (.cells cur e (0, 0)) := (Below.heap_alloc w _ g (Array.getElem?_eq_some_iff.1 hg).1).trans hg
    have hall : ∀ c ∈ cs ++ [r], c.length = sz := fun c hc => by
      rcases List.mem_append.1 hc with hc | hc
      · exact hown.all c hc
      · rw [List.mem_singleton.1 hc, hr]
    have hfl : cs.flatten.length = cs.length * sz := flat_len cs hown.all
    have hnews := row_of_block w r e
    have hn1 : (cs ++ [r]).length = cs.length + 1 := by simp
    have hff : (cs ++ [r]).flatten = cs.flatten ++ r := by simp
    have hm1 : (cs.length + 1) * sz = cs.length * sz + sz := Nat.succ_mul _ _
    by_cases hroom : cs.length + 1 ≤ cap
    · have hfit : off + cs.length * sz + r.length ≤ cur.size := by
        have := Nat.mul_le_mul_right sz hroom
        omega
      have hf := run_firstCells_some (P := P) (w.alloc (.cells r.toArray e)) sz 1 ⟨w.heap.size, 0, none⟩ 1 1 r (by omega) hnews
      have hst := run_storeCells_at P g (off + cs.length * sz) e r 0 cur (w.alloc (.cells r.toArray e)) hg1 (by omega) h1
      simp only [Nat.add_zero] at hst
      refine ⟨.slice (some ⟨g, off, none⟩) (cs.length + 1) cap, (w.alloc (.cells r.toArray e)).setRow g (cur.toList.take (off + cs.length * sz) ++ r ++ cur.toList.drop (off + cs.length * sz + r.length)).toArray, ?_, ⟨.inr ⟨g, off, cap, _, by rw [hn1], hb, setRow_heap _ g cur _ e _ hg1, by omega, hcm, ?_, ?_⟩, hall⟩, ⟨rfl, rfl, rfl, by simp, fun k _ hk => setRow_other _ g k _ (fun e => hk (by simp [Value.ownBlock, e]))⟩, fun b hb => .inl hb⟩
      · simp [Builtin.append_, run_underlying ht, sizeOf, typeInfo, hi, hsz, Builtin.lenOf, hroom, hf, add_plain, hst]
      · simp only [List.size_toArray, List.length_append, List.length_take, List.length_drop, Array.length_toList]
        omega
      · rw [hn1, hff, hm1]
        simp only [List.append_assoc]
        rw [List.drop_append_of_le_length (by simp; omega), List.drop_take, show off + cs.length * sz - off = cs.length * sz by omega, htk, ← List.append_assoc]
        rw [List.take_append_of_le_length (by rw [List.length_append, hfl, hr]; exact Nat.le_refl _), List.take_of_length_le (by rw [List.length_append, hfl, hr]; exact Nat.le_refl _)]
    · have holds : ∀ j u, cs.flatten[j]? = some u → (w.alloc (.cells r.toArray e)).cell? ((⟨g, off, none⟩ : Addr).add j) = some u := by
        intro j u hu
        rw [← htk, List.getElem?_take] at hu
        split at hu
        · rw [List.getElem?_drop, Array.getElem?_toList] at hu
          rw [add_plain]
          simp only [World.cell?, hg1]
          exact hu
        · cases hu
      have hbb : (cs.length + 1) * bytes ≤ 140737488355328 := Nat.le_trans (Nat.mul_le_mul (show cs.length + 1 ≤ 100000000000 by omega) hb0) (by decide)
      have hrn := run_append_grow (P := P) (w.alloc (.cells r.toArray e)) t ty e i z ht hi hz ⟨g, off, none⟩ cs.length cap cs.flatten (by rw [hsz]; exact hfl) holds ⟨w.heap.size, 0, none⟩ 1 1 r (by rw [hsz, hr, Nat.one_mul]) hnews (by omega) (by omega) (growslice_fits (by omega) (by rw [hby]; exact hbb))
      have hge := grownCap_ge (w.alloc (.cells r.toArray e)) (cs.length + 1) cap e
      have hcm2 : grownCap (w.alloc (.cells r.toArray e)) (cs.length + 1) cap e ≤ maxLen := grownCap_le_maxLen _ _ _ _ (by omega)
      refine ⟨_, _, hrn, ⟨.inr ⟨(w.alloc (.cells r.toArray e)).heap.size, 0, _, _, by rw [hn1], by omega, heap_alloc_new (w.alloc (.cells r.toArray e)).drew _, by omega, hcm2, ?_, ?_⟩, hall⟩, ⟨rfl, rfl, rfl, by simp, fun k hk _ => Below.heap_alloc (w.alloc (.cells r.toArray e)).drew _ k hk⟩, fun b hb => .inr ?_⟩
      · simp only [Array.size_append, List.size_toArray, size_zeroCells, hzs, hfl, hr, Nat.zero_add]
        rw [← hm1, ← Nat.add_mul]
        exact Nat.mul_le_mul_right _ (by omega)
      · rw [hn1, hff, hm1, List.drop_zero]
        simp only [Array.toList_append, List.append_assoc]
        rw [← List.append_assoc, List.take_append_of_le_length (by rw [List.length_append, hfl, hr]; exact Nat.le_refl _), List.take_of_length_le (by rw [List.length_append, hfl, hr]; exact Nat.le_refl _)]
      · rw [hsz1] at hb
        simp [Value.ownBlock] at hb
        omega
end

end Go.Proofs.Ytkpneckgpolaoaa
