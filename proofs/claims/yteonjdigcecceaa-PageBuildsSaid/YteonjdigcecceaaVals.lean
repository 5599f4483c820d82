/-
  A slice of values of one cell each that the call itself has made; a slice of such slices of bytes. Nothing of the program's code is named here.
-/
import Derived.Test.YteonjdigcecceaaMade
import Derived.Maps.AppendAt
namespace Go.Proofs.Yteonjdigcecceaa
open Go.RowKit Go.ChangeShapes Go.WideShapes

/-- The slice v, of the element type e, is the call's own, from block base on, and holds vs. -/
def OwnV (w : World) (base : Nat) (e : TypeId) (v : Value) (vs : List Value) : Prop := w.ownsRow base e 1 v vs.length vs

section
variable {w w' : World} {base : Nat} {e : TypeId} {v : Value} {vs : List Value}

theorem ownV_nil (w : World) (base : Nat) (e : TypeId) : OwnV w base e (.slice none 0 0) [] := ⟨rfl, .inl ⟨rfl, rfl⟩⟩

theorem OwnV.lt (h : OwnV w base e v vs) : ∀ k, v.ownBlock = some k → k < w.heap.size := by
  intro k hk
  rcases h.2 with ⟨rfl, _⟩ | ⟨g, cap, cur, rfl, _, hh, _⟩
  · simp [Value.ownBlock] at hk
  · simp [Value.ownBlock] at hk
    subst hk
    exact (Array.getElem?_eq_some_iff.1 hh).1

theorem OwnV.block (h : OwnV w base e v vs) : ∀ k, v.ownBlock = some k → base ≤ k := by
  intro k hk
  rcases h.2 with ⟨rfl, _⟩ | ⟨g, cap, cur, rfl, hg, _⟩
  · simp [Value.ownBlock] at hk
  · simp [Value.ownBlock] at hk
    omega

theorem OwnV.keep (h : OwnV w base e v vs) (hk : ∀ k, v.ownBlock = some k → w'.heap[k]? = w.heap[k]?) : OwnV w' base e v vs := by
  refine ⟨h.1, ?_⟩
  rcases h.2 with h0 | ⟨g, cap, cur, rfl, hg, hh, r⟩
  · exact .inl h0
  · exact .inr ⟨g, cap, cur, rfl, hg, (hk g rfl).trans hh, r⟩

theorem OwnV.alloc (h : OwnV w base e v vs) (o : Obj) : OwnV (w.alloc o) base e v vs := h.keep fun k hk => Below.heap_alloc w o k (h.lt k hk)

theorem OwnV.below (h : OwnV w base e v vs) (hb : Below w.heap.size w w') : OwnV w' base e v vs := h.keep fun k hk => hb.block k (h.lt k hk)

theorem OwnV.len {A : Option Addr} {n c : Nat} (h : OwnV w base e (.slice A n c) vs) : vs.length = n := by
  rcases h.2 with ⟨h1, h0⟩ | ⟨g, cap, cur, h1, _⟩
  · injection h1 with _ h2
    omega
  · injection h1 with _ h2
    omega

theorem OwnV.le {base' : Nat} (h : OwnV w base e v vs) (hb : base' ≤ base) : OwnV w base' e v vs :=
  ⟨h.1, h.2.elim Or.inl (fun ⟨g, cap, cur, hv, hg, r⟩ => Or.inr ⟨g, cap, cur, hv, Nat.le_trans hb hg, r⟩)⟩

/-- The element type of its block. -/
theorem OwnV.elem (h : OwnV w base e v vs) : ∀ k, v.ownBlock = some k → ∃ cur, w.heap[k]? = some (.cells cur e (0, 0)) := by
  intro k hk
  rcases h.2 with ⟨rfl, _⟩ | ⟨g, cap, cur, rfl, _, hh, _⟩
  · simp [Value.ownBlock] at hk
  · simp [Value.ownBlock] at hk
    subst hk
    exact ⟨cur, hh⟩

theorem Own.elem {xs : List UInt8} (h : Own w base e v xs) : ∀ k, v.ownBlock = some k → ∃ cur, w.heap[k]? = some (.cells cur e (0, 0)) := OwnV.elem (vs := xs.map cellOf) (by have h2 := h; unfold Own at h2; unfold OwnV; rw [List.length_map]; exact h2)

/-- What it is: its form, and its cells. -/
theorem OwnV.reads (h : OwnV w base e v vs) : ∃ A c, v = .slice A vs.length c ∧ vs.length ≤ c ∧ c ≤ maxLen ∧ ∀ (i : Nat) x, vs[i]? = some x → ∃ b, A = some ⟨b, 0, none⟩ ∧ base ≤ b ∧ b < w.heap.size ∧ w.cell? ⟨b, i, none⟩ = some x := by
  rcases h.2 with ⟨rfl, h0⟩ | ⟨g, cap, cur, rfl, hb, hg, hnc, hcm, hcs, ht⟩
  · exact ⟨none, 0, by rw [h0], by omega, Nat.zero_le _, fun i x hx => by
      obtain ⟨hl, _⟩ := List.getElem?_eq_some_iff.1 hx
      omega⟩
  · refine ⟨_, _, rfl, hnc, hcm, fun i x hx => ⟨g, rfl, hb, (Array.getElem?_eq_some_iff.1 hg).1, ?_⟩⟩
    obtain ⟨hl, _⟩ := List.getElem?_eq_some_iff.1 hx
    have e1 : (cur.toList.take (vs.length * 1))[i]? = some x := by rw [ht]; exact hx
    rw [List.getElem?_take, if_pos (by omega), Array.getElem?_toList] at e1
    simp only [World.cell?, hg]
    rw [e1]
    rfl
end

def sliceInfo (P : Program) (e : TypeId) : Prop := ∃ i, P.info? e = some i ∧ i.zero = some (.slice none 0 0) ∧ i.size = 1 ∧ i.bytes = 24

theorem one_of_block (w : World) (x : Value) (e : TypeId) : ∀ j u, ([x] : List Value)[j]? = some u → (w.alloc (.cells #[x] e)).cell? (Addr.add ⟨w.heap.size, 0, none⟩ j) = some u := by
  intro j u hu
  rcases j with _ | j
  · rw [add_plain]
    simp at hu
    subst hu
    simp [World.cell?_alloc_at]
  · simp at hu

section
variable {P : Program} (w : World)

/-- append(own, x), x a slice, the new block of one just laid. -/
theorem run_append_slice (base : Nat) (t ty e : TypeId) (ht : P.underlying t = some (.slice e)) (hi : sliceInfo P e) (v : Value) (vs : List Value) (hown : OwnV w base e v vs)
    (A : Option Addr) (n c : Nat) (hlen : vs.length ≤ 1000000000000) (hbase : base ≤ w.heap.size) :
    ∃ v' w', (Builtin.append_ #[t, t] ty #[v, .slice (some ⟨w.heap.size, 0, none⟩) 1 1]).run P (w.alloc (.cells #[.slice A n c] e)) = .ok v' w' ∧ OwnV w' base e v' (vs ++ [.slice A n c]) ∧ (w.alloc (.cells #[.slice A n c] e)).grownBy w' v.ownBlock ∧ (∀ b, v'.ownBlock = some b → v.ownBlock = some b ∨ w.heap.size ≤ b) := by
  obtain ⟨i, hi, hz, hsz, hby⟩ := hi
  have hmx : (140737488355328 : Nat) ≤ maxLen := by decide
  have hsz1 : (w.alloc (.cells #[.slice A n c] e)).heap.size = w.heap.size + 1 := by simp
  obtain ⟨v', w', hrun, h2, h3, _, h5⟩ := run_append_own_at (P := P) (w.alloc (.cells #[.slice A n c] e)) base t ty e i (.slice none 0 0) 1 24 ht hi hz hsz hby rfl (by omega) v vs.length vs (hown.alloc _) ⟨w.heap.size, 0, none⟩ 1 1 [.slice A n c] rfl (one_of_block w _ e)
      (fun u hu => by simp at hu; subst hu; rfl) (by omega) (by omega) (by omega)
  refine ⟨v', w', hrun, ?_, h3, fun b hb => h5.imp (fun h => h.symm.trans hb) (fun h => by rw [hb, hsz1] at h; injection h; omega)⟩
  unfold OwnV
  rw [List.length_append]
  exact h2

theorem wpList_append_slice {ops : Array Oper} {rest : List Oper} {o : Oper} {a : Act} {Q : Exit → Act → World → Prop} (hgd : o.guard = none) (s x : Operand) (t : TypeId)
    (ho : o.op = .call { callee := .builtin .append, args := #[s, x], argTypes := #[t, t] })
    (base : Nat) (e : TypeId) (ht : P.underlying t = some (.slice e)) (hi : sliceInfo P e) (v : Value) (vs : List Value) (hs : a.eval s = v) (hown : OwnV w base e v vs)
    (A : Option Addr) (n c : Nat) (hx : a.eval x = .slice (some ⟨w.heap.size, 0, none⟩) 1 1) (hlen : vs.length ≤ 1000000000000) (hbase : base ≤ w.heap.size)
    (h : ∀ v' w', OwnV w' base e v' (vs ++ [.slice A n c]) → (w.alloc (.cells #[.slice A n c] e)).grownBy w' v.ownBlock → (∀ b, v'.ownBlock = some b → v.ownBlock = some b ∨ w.heap.size ≤ b) → wpList P ops Q rest (a.put o.dst v') w') : wpList P ops Q (o :: rest) a (w.alloc (.cells #[.slice A n c] e)) :=
  wpList_plain hgd fun _ hK => by
    obtain ⟨v', w', hrun, h2, h3, h4⟩ := run_append_slice (P := P) w base t o.type e ht hi v vs hown A n c hlen hbase
    unfold Oper.wp execOp
    simp only [ho, resolve, invoke, builtin, Sem.run_bind, Sem.run_pure, Result.andThen_ok, List.map_toArray, List.map_cons, List.map_nil, hs, hx, hrun]
    exact hK _ _ (h v' w' h2 h3 h4)
end

/-- A slice of slices of bytes, all of the call's own, from block base on. -/
def Own2 (w : World) (base : Nat) (e e8 : TypeId) (v : Value) (ls : List (List UInt8)) : Prop :=
  ∃ vs, OwnV w base e v vs ∧ vs.length = ls.length ∧ ∀ (i : Nat) x xs, vs[i]? = some x → ls[i]? = some xs → Own w base e8 x xs

section
variable {w w' : World} {base : Nat} {e e8 : TypeId} {v : Value} {ls : List (List UInt8)}

/-- Blocks of other elements do not meet. -/
theorem elem_ne {e e' : TypeId} (he : e ≠ e') {k k' : Nat} {cur cur' : Array Value} (h : w.heap[k]? = some (.cells cur e (0, 0))) (h' : w.heap[k']? = some (.cells cur' e' (0, 0))) : k ≠ k' := fun ek => by
  subst ek
  rw [h] at h'
  injection h' with h'
  injection h' with _ h'
  exact he h'

theorem own2_nil (w : World) (base : Nat) (e e8 : TypeId) : Own2 w base e e8 (.slice none 0 0) [] := ⟨[], ownV_nil _ _ _, rfl, fun i x xs h _ => by simp at h⟩

theorem Own2.keep (h : Own2 w base e e8 v ls) (hk : ∀ b, base ≤ b → b < w.heap.size → w'.heap[b]? = w.heap[b]?) : Own2 w' base e e8 v ls := by
  obtain ⟨vs, h1, h2, h3⟩ := h
  exact ⟨vs, h1.keep fun k hk2 => hk k (h1.block k hk2) (h1.lt k hk2), h2, fun i x xs hx hl => (h3 i x xs hx hl).keep fun k hk2 => hk k ((h3 i x xs hx hl).block k hk2) ((h3 i x xs hx hl).lt k hk2)⟩

theorem Own2.le {base' : Nat} (h : Own2 w base e e8 v ls) (hb : base' ≤ base) : Own2 w base' e e8 v ls := by
  obtain ⟨vs, h1, h2, h3⟩ := h
  exact ⟨vs, h1.le hb, h2, fun i x xs ha hl => (h3 i x xs ha hl).le hb⟩

theorem lt_of_cell {w : World} {b i : Nat} {x : Value} (h : w.cell? ⟨b, i, none⟩ = some x) : b < w.heap.size := by
  rcases Nat.lt_or_ge b w.heap.size with hl | hl
  · exact hl
  · simp [World.cell?, Array.getElem?_eq_none hl] at h

theorem Own2.below (h : Own2 w base e e8 v ls) (hb : Below w.heap.size w w') : Own2 w' base e e8 v ls := h.keep fun b _ h2 => hb.block b h2

/-- One more: what the append leaves of the outer one, and the inner one. -/
theorem Own2.snoc {A : Option Addr} {n c : Nat} {vs : List Value} (h1 : OwnV w' base e v (vs ++ [.slice A n c])) (h2 : vs.length = ls.length) (h3 : ∀ (i : Nat) x xs, vs[i]? = some x → ls[i]? = some xs → Own w' base e8 x xs) {xs : List UInt8} (hx : Own w' base e8 (.slice A n c) xs) : Own2 w' base e e8 v (ls ++ [xs]) := by
  refine ⟨_, h1, by simp [h2], fun i x ys ha hb => ?_⟩
  rcases Nat.lt_or_ge i vs.length with hi | hi
  · rw [List.getElem?_append_left hi] at ha
    rw [List.getElem?_append_left (by omega)] at hb
    exact h3 i x ys ha hb
  · rw [List.getElem?_append_right hi] at ha
    rw [List.getElem?_append_right (by omega)] at hb
    have hz : i - vs.length = 0 := by
      have := (List.getElem?_eq_some_iff.1 ha).1
      simp at this
      omega
    rw [hz] at ha
    rw [← h2, hz] at hb
    simp at ha hb
    subst ha hb
    exact hx
end
end Go.Proofs.Yteonjdigcecceaa
