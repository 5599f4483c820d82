/-
  A slice of ints that the call itself has made: append onto it, what it reads as. Nothing of the program's code is named here.
-/
import Derived.Test.YtkpneckgpolaoaaNums
import Derived.Test.YtkpneckgpolaoaaInts
import Derived.Maps.AppendAt
namespace Go.Proofs.Ytkpneckgpolaoaa
open Go.RowKit Go.ChangeShapes Go.WideShapes

/-- The slice v, of the element type e (an int), is the call's own, from block base on, and holds zs. -/
def OwnI (w : World) (base : Nat) (e : TypeId) (v : Value) (zs : List Int) : Prop := w.ownsRow base e 1 v zs.length (zs.map (Value.int .i64))

theorem ownI_nil (w : World) (base : Nat) (e : TypeId) : OwnI w base e (.slice none 0 0) [] := ⟨rfl, .inl ⟨rfl, rfl⟩⟩

theorem OwnI.form {w : World} {base : Nat} {e : TypeId} {v : Value} {zs : List Int} (h : OwnI w base e v zs) : ∃ A m c, v = .slice A m c := by
  rcases h.2 with ⟨rfl, h0⟩ | ⟨g, cap, cur, rfl, _⟩
  · exact ⟨_, _, _, rfl⟩
  · exact ⟨_, _, _, rfl⟩

theorem OwnI.len {w : World} {base : Nat} {e : TypeId} {A : Option Addr} {n c : Nat} {zs : List Int} (h : OwnI w base e (.slice A n c) zs) : zs.length = n := by
  rcases h.2 with ⟨h1, h0⟩ | ⟨g, cap, cur, h1, _⟩
  · injection h1 with _ h2
    omega
  · injection h1 with _ h2
    omega

theorem OwnI.block {w : World} {base : Nat} {e : TypeId} {v : Value} {zs : List Int} (h : OwnI w base e v zs) : ∀ k, v.ownBlock = some k → base ≤ k := by
  intro k hk
  rcases h.2 with ⟨rfl, _⟩ | ⟨g, cap, cur, rfl, hg, _⟩
  · simp [Value.ownBlock] at hk
  · simp [Value.ownBlock] at hk
    omega

theorem OwnI.keep {w w' : World} {base : Nat} {e : TypeId} {v : Value} {zs : List Int} (h : OwnI w base e v zs) (hk : ∀ k, v.ownBlock = some k → w'.heap[k]? = w.heap[k]?) : OwnI w' base e v zs := by
  refine ⟨h.1, ?_⟩
  rcases h.2 with h0 | ⟨g, cap, cur, rfl, hg, hh, r⟩
  · exact .inl h0
  · exact .inr ⟨g, cap, cur, rfl, hg, (hk g rfl).trans hh, r⟩

theorem OwnI.lt {w : World} {base : Nat} {e : TypeId} {v : Value} {zs : List Int} (h : OwnI w base e v zs) : ∀ k, v.ownBlock = some k → k < w.heap.size := by
  intro k hk
  rcases h.2 with ⟨rfl, _⟩ | ⟨g, cap, cur, rfl, _, hh, _⟩
  · simp [Value.ownBlock] at hk
  · simp [Value.ownBlock] at hk
    subst hk
    exact (Array.getElem?_eq_some_iff.1 hh).1

theorem OwnI.below {w w' : World} {base : Nat} {e : TypeId} {v : Value} {zs : List Int} (h : OwnI w base e v zs) (hb : Below w.heap.size w w') : OwnI w' base e v zs :=
  h.keep fun k hk => hb.block k (h.lt k hk)

theorem OwnI.alloc {w : World} {base : Nat} {e : TypeId} {v : Value} {zs : List Int} (h : OwnI w base e v zs) (o : Obj) : OwnI (w.alloc o) base e v zs :=
  h.keep fun k hk => Below.heap_alloc w o k (h.lt k hk)

theorem OwnI.drewN {w : World} {base : Nat} {e : TypeId} {v : Value} {zs : List Int} (h : OwnI w base e v zs) (k : Nat) : OwnI (w.drewN k) base e v zs := h

theorem OwnI.le {w : World} {base base' : Nat} {e : TypeId} {v : Value} {zs : List Int} (h : OwnI w base e v zs) (hb : base' ≤ base) : OwnI w base' e v zs :=
  ⟨h.1, h.2.elim Or.inl (fun ⟨g, cap, cur, hv, hg, r⟩ => Or.inr ⟨g, cap, cur, hv, Nat.le_trans hb hg, r⟩)⟩

theorem OwnI.first {w : World} {base : Nat} {e : TypeId} {A : Option Addr} {n c : Nat} {zs : List Int} (h : OwnI w base e (.slice A n c) zs) (h0 : 0 < n) : ∃ g, A = some ⟨g, 0, none⟩ ∧ base ≤ g ∧ n ≤ c ∧ c ≤ maxLen := by
  rcases h.2 with ⟨h1, hz⟩ | ⟨g, cap, cur, h1, hb, _, hnc, hcm, _⟩
  · injection h1 with _ h2
    omega
  · injection h1 with h1 h2 h3
    subst h1 h2 h3
    exact ⟨g, rfl, hb, hnc, hcm⟩

theorem OwnI.cell {w : World} {base : Nat} {e : TypeId} {g n cap : Nat} {zs : List Int} (h : OwnI w base e (.slice (some ⟨g, 0, none⟩) n cap) zs) {i : Nat} {z : Int} (hi : zs[i]? = some z) :
    w.cell? ⟨g, i, none⟩ = some (.int .i64 z) ∧ w.frozen? ⟨g, i, none⟩ = false := by
  rcases h.2 with ⟨hv, _⟩ | ⟨g', cap', cur, hv, _, hg, hnc, _, hcs, ht⟩
  · cases hv
  · injection hv with h1
    injection h1 with h1
    injection h1 with h1
    subst h1
    obtain ⟨hl, rfl⟩ := List.getElem?_eq_some_iff.1 hi
    have e1 : (cur.toList.take (zs.length * 1))[i]? = some (Value.int .i64 zs[i]) := by rw [ht]; simp [hl]
    rw [List.getElem?_take, if_pos (by omega), Array.getElem?_toList] at e1
    exact ⟨by simp only [World.cell?, hg]; exact e1, by simp [World.frozen?, hg]⟩

theorem OwnI.set {w : World} {base : Nat} {e : TypeId} {g n cap : Nat} {zs : List Int} (h : OwnI w base e (.slice (some ⟨g, 0, none⟩) n cap) zs) (i : Nat) (y : Int) :
    OwnI (w.setCell ⟨g, i, none⟩ (.int .i64 y)) base e (.slice (some ⟨g, 0, none⟩) n cap) (zs.set i y) := by
  rcases h.2 with ⟨hv, _⟩ | ⟨g', cap', cur, hv, hb, hg, hnc, hcm, hcs, ht⟩
  · cases hv
  · injection hv with h1 h2 h3
    injection h1 with h1
    injection h1 with h1
    subst h1 h2 h3
    refine ⟨by simp, .inr ⟨g, cap, cur.setIfInBounds i (.int .i64 y), by simp, hb, ?_, by simpa using hnc, hcm, by simpa using hcs, ?_⟩⟩
    · simp [World.setCell, Array.getElem?_modify, hg]
    · have e2 : (cur.setIfInBounds i (.int .i64 y)).toList = cur.toList.set i (.int .i64 y) := by simp
      rw [e2, List.length_set, List.take_set, ht, List.map_set]

/-- What an own slice is: its form, and that it reads as its list. -/
theorem OwnI.reads {w : World} {base : Nat} {e : TypeId} {v : Value} {zs : List Int} (h : OwnI w base e v zs) (hz : ∀ z ∈ zs, -9223372036854775808 ≤ z ∧ z ≤ 9223372036854775807) :
    ∃ A c, v = .slice A zs.length c ∧ zs.length ≤ c ∧ c ≤ maxLen ∧ Nums w w.heap.size A zs.length zs := by
  rcases h.2 with ⟨rfl, h0⟩ | ⟨g, cap, cur, rfl, _, hg, hnc, hcm, hcs, ht⟩
  · exact ⟨none, 0, by rw [h0], by omega, Nat.zero_le _, rfl, fun i hi => absurd hi (by omega)⟩
  · refine ⟨_, _, rfl, hnc, hcm, rfl, fun i hi => ⟨(hz _ (List.getElem_mem hi)).1, (hz _ (List.getElem_mem hi)).2, g, 0, rfl, ?_, ?_⟩⟩
    · exact (Array.getElem?_eq_some_iff.1 hg).1
    · have e1 : (cur.toList.take (zs.length * 1))[i]? = some (Value.int .i64 zs[i]) := by rw [ht]; simp [hi]
      rw [List.getElem?_take, if_pos (by omega), Array.getElem?_toList] at e1
      simp only [World.cell?, hg]
      rw [Nat.zero_add, e1]
      rfl

theorem nums_of_block (w : World) (z : Int) (e : TypeId) : ∀ j u, ([Value.int .i64 z] : List Value)[j]? = some u → (w.alloc (.cells #[.int .i64 z] e)).cell? (Addr.add ⟨w.heap.size, 0, none⟩ j) = some u := by
  intro j u hu
  rcases j with _ | j
  · rw [add_plain]
    simp at hu
    subst hu
    simp [World.cell?_alloc_at]
  · simp at hu

section
variable {P : Program} (w : World)

/-- append(own, z), the new block of one int just laid. -/
theorem run_append_int (base : Nat) (t ty e : TypeId) (ht : P.underlying t = some (.slice e)) (hi : intInfo P e) (v : Value) (zs : List Int) (hown : OwnI w base e v zs)
    (z : Int) (hlen : zs.length ≤ 1000000000000) (hbase : base ≤ w.heap.size) :
    ∃ v' w', (Builtin.append_ #[t, t] ty #[v, .slice (some ⟨w.heap.size, 0, none⟩) 1 1]).run P (w.alloc (.cells #[.int .i64 z] e)) = .ok v' w' ∧ OwnI w' base e v' (zs ++ [z]) ∧ (w.alloc (.cells #[.int .i64 z] e)).grownBy w' v.ownBlock := by
  obtain ⟨i, hi, hz, hsz, hby⟩ := hi
  have hmx : (140737488355328 : Nat) ≤ maxLen := by decide
  have hsz1 : (w.alloc (.cells #[.int .i64 z] e)).heap.size = w.heap.size + 1 := by simp
  obtain ⟨v', w', hrun, h2, h3, _, h5⟩ := run_append_own_at (P := P) (w.alloc (.cells #[.int .i64 z] e)) base t ty e i (.int .i64 0) 1 8 ht hi hz hsz hby rfl (by omega) v zs.length (zs.map (Value.int .i64)) (hown.alloc _) ⟨w.heap.size, 0, none⟩ 1 1 [.int .i64 z] rfl (nums_of_block w z e)
      (fun u hu => by simp at hu; subst hu; rfl) (by omega) (by omega) (by omega)
  refine ⟨v', w', hrun, ?_, h3⟩
  unfold OwnI
  rw [List.map_append, List.length_append]
  exact h2

theorem wpList_append_int {ops : Array Oper} {rest : List Oper} {o : Oper} {a : Act} {Q : Exit → Act → World → Prop} (hgd : o.guard = none) (s x : Operand) (t : TypeId)
    (ho : o.op = .call { callee := .builtin .append, args := #[s, x], argTypes := #[t, t] })
    (base : Nat) (e : TypeId) (ht : P.underlying t = some (.slice e)) (hi : intInfo P e) (v : Value) (zs : List Int) (hs : a.eval s = v) (hown : OwnI w base e v zs)
    (z : Int) (hx : a.eval x = .slice (some ⟨w.heap.size, 0, none⟩) 1 1) (hlen : zs.length ≤ 1000000000000) (hbase : base ≤ w.heap.size)
    (h : ∀ v' w', OwnI w' base e v' (zs ++ [z]) → (w.alloc (.cells #[.int .i64 z] e)).grownBy w' v.ownBlock → wpList P ops Q rest (a.put o.dst v') w') : wpList P ops Q (o :: rest) a (w.alloc (.cells #[.int .i64 z] e)) :=
  wpList_plain hgd fun _ hK => by
    obtain ⟨v', w', hrun, h2, h3⟩ := run_append_int (P := P) w base t o.type e ht hi v zs hown z hlen hbase
    unfold Oper.wp execOp
    simp only [ho, resolve, invoke, builtin, Sem.run_bind, Sem.run_pure, Result.andThen_ok, List.map_toArray, List.map_cons, List.map_nil, hs, hx, hrun]
    exact hK _ _ (h v' w' h2 h3)
end
end Go.Proofs.Ytkpneckgpolaoaa
