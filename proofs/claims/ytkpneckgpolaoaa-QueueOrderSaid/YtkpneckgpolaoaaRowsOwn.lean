/-
  A slice of rows of several cells each (structs) that the call itself has made: what it reads as, a cell laid anew, a row more, the first rows gone. Nothing of the program's code is named here.
-/
import Derived.Test.YtkpneckgpolaoaaBytes
import Derived.Maps.AppendAt
namespace Go.Proofs.Ytkpneckgpolaoaa
open Go.RowKit Go.ChangeShapes Go.WideShapes

section
variable {α : Type} {sz : Nat}
theorem flat_at (cs : List (List α)) (h : ∀ c ∈ cs, c.length = sz) (i j : Nat) (hj : j < sz) : cs.flatten[i * sz + j]? = (cs[i]?).bind (·[j]?) := by
  induction cs generalizing i with
  | nil => simp
  | cons c cs ih =>
    have hc := h c (by simp)
    rcases i with _ | i
    · rw [List.flatten_cons, List.getElem?_append_left (by omega)]
      simp
    · rw [List.flatten_cons, List.getElem?_append_right (by rw [Nat.add_mul]; omega), show (i + 1) * sz + j - c.length = i * sz + j by rw [Nat.add_mul]; omega, ih (fun d hd => h d (by simp [hd])) i]
      simp

theorem flat_len (cs : List (List α)) (h : ∀ c ∈ cs, c.length = sz) : cs.flatten.length = cs.length * sz := by
  induction cs with
  | nil => simp
  | cons c cs ih =>
    have hc := h c (by simp)
    rw [List.flatten_cons, List.length_append, ih (fun d hd => h d (by simp [hd])), hc, List.length_cons, Nat.add_mul]
    omega

theorem flat_drop (cs : List (List α)) (h : ∀ c ∈ cs, c.length = sz) (k : Nat) : cs.flatten.drop (k * sz) = (cs.drop k).flatten := by
  induction cs generalizing k with
  | nil => simp
  | cons c cs ih =>
    have hc := h c (by simp)
    rcases k with _ | k
    · simp
    · rw [List.flatten_cons, List.drop_append, List.drop_eq_nil_of_le (by rw [Nat.add_mul]; omega), show (k + 1) * sz - c.length = k * sz by rw [Nat.add_mul]; omega, ih (fun d hd => h d (by simp [hd])) k]
      simp

theorem flat_set (cs : List (List α)) (h : ∀ c ∈ cs, c.length = sz) (i j : Nat) (hj : j < sz) (x : α) : cs.flatten.set (i * sz + j) x = (cs.modify i (·.set j x)).flatten := by
  induction cs generalizing i with
  | nil => simp
  | cons c cs ih =>
    have hc := h c (by simp)
    rcases i with _ | i
    · rw [List.flatten_cons, List.set_append_left _ _ (by omega)]
      simp
    · rw [List.flatten_cons, List.set_append_right _ _ (by rw [Nat.add_mul]; omega), show (i + 1) * sz + j - c.length = i * sz + j by rw [Nat.add_mul]; omega, ih (fun d hd => h d (by simp [hd])) i]
      simp
end

/-- The slice v, of the element type e of sz cells, is the call's own, from block base on, and its rows are cs. -/
structure OwnR (w : World) (base : Nat) (e : TypeId) (sz : Nat) (v : Value) (cs : List (List Value)) : Prop where
  row : w.ownsRow base e sz v cs.length cs.flatten
  all : ∀ c ∈ cs, c.length = sz

section
variable {w w' : World} {base : Nat} {e : TypeId} {sz : Nat} {v : Value} {cs : List (List Value)}

theorem ownR_nil (w : World) (base : Nat) (e : TypeId) (sz : Nat) : OwnR w base e sz (.slice none 0 0) [] := ⟨⟨by simp, .inl ⟨rfl, rfl⟩⟩, fun c hc => by simp at hc⟩

theorem OwnR.lt (h : OwnR w base e sz v cs) : ∀ k, v.ownBlock = some k → k < w.heap.size := by
  intro k hk
  rcases h.row.2 with ⟨rfl, _⟩ | ⟨g, cap, cur, rfl, _, hh, _⟩
  · simp [Value.ownBlock] at hk
  · simp [Value.ownBlock] at hk
    subst hk
    exact (Array.getElem?_eq_some_iff.1 hh).1

theorem OwnR.block (h : OwnR w base e sz v cs) : ∀ k, v.ownBlock = some k → base ≤ k := by
  intro k hk
  rcases h.row.2 with ⟨rfl, _⟩ | ⟨g, cap, cur, rfl, hg, _⟩
  · simp [Value.ownBlock] at hk
  · simp [Value.ownBlock] at hk
    omega

theorem OwnR.keep (h : OwnR w base e sz v cs) (hk : ∀ k, v.ownBlock = some k → w'.heap[k]? = w.heap[k]?) : OwnR w' base e sz v cs := by
  refine ⟨⟨h.row.1, ?_⟩, h.all⟩
  rcases h.row.2 with h0 | ⟨g, cap, cur, rfl, hg, hh, r⟩
  · exact .inl h0
  · exact .inr ⟨g, cap, cur, rfl, hg, (hk g rfl).trans hh, r⟩

theorem OwnR.alloc (h : OwnR w base e sz v cs) (o : Obj) : OwnR (w.alloc o) base e sz v cs := h.keep fun k hk => Below.heap_alloc w o k (h.lt k hk)

theorem OwnR.below (h : OwnR w base e sz v cs) (hb : Below w.heap.size w w') : OwnR w' base e sz v cs := h.keep fun k hk => hb.block k (h.lt k hk)

/-- Its form. -/
theorem OwnR.form (h : OwnR w base e sz v cs) : ∃ A c, v = .slice A cs.length c ∧ cs.length ≤ c ∧ c ≤ maxLen ∧ (0 < cs.length → ∃ g, A = some ⟨g, 0, none⟩) := by
  rcases h.row.2 with ⟨rfl, h0⟩ | ⟨g, cap, cur, rfl, _, _, hnc, hcm, _⟩
  · exact ⟨none, 0, by rw [h0], by omega, Nat.zero_le _, fun h => by omega⟩
  · exact ⟨_, _, rfl, hnc, hcm, fun _ => ⟨g, rfl⟩⟩

/-- Its cells. -/
theorem OwnR.cell {g n c : Nat} (h : OwnR w base e sz (.slice (some ⟨g, 0, none⟩) n c) cs) {i j : Nat} {r : List Value} {x : Value} (hr : cs[i]? = some r) (hx : r[j]? = some x) :
    w.cell? ⟨g, i * sz + j, none⟩ = some x ∧ w.frozen? ⟨g, i * sz + j, none⟩ = false := by
  have hsz := h.all r (List.mem_of_getElem? hr)
  have hj : j < sz := by have := (List.getElem?_eq_some_iff.1 hx).1; omega
  rcases h.row.2 with ⟨hv, _⟩ | ⟨g', cap', cur, hv, _, hg, hnc, _, hcs, ht⟩
  · cases hv
  · injection hv with h1
    injection h1 with h1
    injection h1 with h1
    subst h1
    have hi : i < cs.length := (List.getElem?_eq_some_iff.1 hr).1
    have hlt : i * sz + j < cs.length * sz := by
      have : (i + 1) * sz ≤ cs.length * sz := Nat.mul_le_mul_right _ hi
      rw [Nat.add_mul] at this
      omega
    have e1 : (cur.toList.take (cs.length * sz))[i * sz + j]? = some x := by rw [ht, flat_at cs h.all i j hj, hr]; exact hx
    rw [List.getElem?_take, if_pos hlt, Array.getElem?_toList] at e1
    exact ⟨by simp only [World.cell?, hg]; exact e1, by simp [World.frozen?, hg]⟩

/-- A cell laid anew. -/
theorem OwnR.set {g n c : Nat} (h : OwnR w base e sz (.slice (some ⟨g, 0, none⟩) n c) cs) (i j : Nat) (hj : j < sz) (x : Value) :
    OwnR (w.setCell ⟨g, i * sz + j, none⟩ x) base e sz (.slice (some ⟨g, 0, none⟩) n c) (cs.modify i (·.set j x)) := by
  have hall : ∀ d ∈ cs.modify i (·.set j x), d.length = sz := by
    intro d hd
    obtain ⟨k, hk⟩ := List.getElem?_of_mem hd
    rw [List.getElem?_modify] at hk
    cases hck : cs[k]? with
    | none => rw [hck] at hk; cases hk
    | some r =>
      rw [hck] at hk
      have hr := h.all r (List.mem_of_getElem? hck)
      injection hk with hk
      split at hk
      · rw [← hk, List.length_set, hr]
      · rw [← hk, hr]
  rcases h.row.2 with ⟨hv, _⟩ | ⟨g', cap', cur, hv, hb, hg, hnc, hcm, hcs, ht⟩
  · cases hv
  · injection hv with h1 h2 h3
    injection h1 with h1
    injection h1 with h1
    subst h1 h2 h3
    refine ⟨⟨flat_len _ hall, .inr ⟨g, c, cur.setIfInBounds (i * sz + j) x, by rw [List.length_modify], hb, ?_, by rw [List.length_modify]; exact hnc, hcm, by rw [Array.size_setIfInBounds]; exact hcs, ?_⟩⟩, hall⟩
    · simp [World.setCell, Array.getElem?_modify, hg]
    · have e2 : (cur.setIfInBounds (i * sz + j) x).toList = cur.toList.set (i * sz + j) x := by simp
      rw [e2, List.length_modify, List.take_set, ht, flat_set cs h.all i j hj]

/-- A row loaded whole. -/
theorem OwnR.load {P : Program} {g n c : Nat} (h : OwnR w base e sz (.slice (some ⟨g, 0, none⟩) n c) cs) {i : Nat} {r : List Value} (hr : cs[i]? = some r) :
    (loadCellsFrom ⟨g, i * sz, none⟩ 0 sz #[]).run P w = .ok r.toArray w := by
  have hsz := h.all r (List.mem_of_getElem? hr)
  have hl := run_loadCells_list (P := P) w ⟨g, i * sz, none⟩ r (fun j v hv => by
    rw [add_plain]
    exact (h.cell hr hv).1)
  rw [hsz] at hl
  exact hl
end

theorem row_of_block (w : World) (r : List Value) (e : TypeId) : ∀ j u, r[j]? = some u → (w.alloc (.cells r.toArray e)).cell? (Addr.add ⟨w.heap.size, 0, none⟩ j) = some u := by
  intro j u hu
  rw [add_plain, Nat.zero_add]
  simp [World.cell?_alloc_at, hu]

/-- What an append of rows wants of the element's type. -/
def rowInfo (P : Program) (e : TypeId) (sz bytes : Nat) : Prop := ∃ i z, P.info? e = some i ∧ i.zero = some z ∧ i.size = sz ∧ i.bytes = bytes ∧ z.cells.size = sz

section
variable {P : Program} (w : World)

/-- append(own, x), x a row, the new block of one just laid. -/
theorem run_append_row (base : Nat) (t ty e : TypeId) (sz bytes : Nat) (hs0 : 0 < sz) (hb0 : bytes ≤ 1000) (ht : P.underlying t = some (.slice e)) (hi : rowInfo P e sz bytes) (v : Value) (cs : List (List Value)) (hown : OwnR w base e sz v cs)
    (r : List Value) (hr : r.length = sz) (h1 : ∀ u ∈ r, u.oneCell' = true) (hlen : cs.length ≤ 1000000000) (hbase : base ≤ w.heap.size) :
    ∃ v' w', (Builtin.append_ #[t, t] ty #[v, .slice (some ⟨w.heap.size, 0, none⟩) 1 1]).run P (w.alloc (.cells r.toArray e)) = .ok v' w' ∧ OwnR w' base e sz v' (cs ++ [r]) ∧ (w.alloc (.cells r.toArray e)).grownBy w' v.ownBlock ∧ (∀ b, v'.ownBlock = some b → v.ownBlock = some b ∨ w.heap.size < b) := by
  obtain ⟨i, z, hi, hz, hsz, hby, hzs⟩ := hi
  have hmx : (140737488355328 : Nat) ≤ maxLen := by decide
  have hsz1 : (w.alloc (.cells r.toArray e)).heap.size = w.heap.size + 1 := by simp
  have hbb : (cs.length + 1) * bytes ≤ 140737488355328 := Nat.le_trans (Nat.mul_le_mul (show cs.length + 1 ≤ 100000000000 by omega) hb0) (by decide)
  obtain ⟨v', w', hrun, h2, h3, _, h5⟩ := run_append_own_at (P := P) (w.alloc (.cells r.toArray e)) base t ty e i z sz bytes ht hi hz hsz hby hzs hs0 v cs.length cs.flatten (hown.alloc _).row ⟨w.heap.size, 0, none⟩ 1 1 r (by omega) (row_of_block w r e)
      h1 (by omega) hbb (by omega)
  refine ⟨v', w', hrun, ⟨?_, fun c hc => ?_⟩, h3, fun b hb => h5.imp (fun h => h.symm.trans hb) (fun h => by rw [hb, hsz1] at h; injection h; omega)⟩
  · rw [List.length_append, List.flatten_append, List.flatten_cons, List.flatten_nil, List.append_nil]
    exact h2
  · rcases List.mem_append.1 hc with hc | hc
    · exact hown.all c hc
    · rw [List.mem_singleton.1 hc, hr]
end

end Go.Proofs.Ytkpneckgpolaoaa
