/-
  append(own, s...) of slices of rows of several cells. Nothing of the program's code is named here.
-/
import Derived.Test.YteonjdigcecceaaRowsOwn
namespace Go.Proofs.Yteonjdigcecceaa
open Go.RowKit Go.ChangeShapes Go.WideShapes

/-- The slice of m rows at A, below block B, reads as the rows ds of sz cells each. -/
structure Rows (w : World) (B sz : Nat) (A : Option Addr) (m : Nat) (ds : List (List Value)) : Prop where
  len : ds.length = m
  at_ : ∀ i r, ds[i]? = some r → r.length = sz ∧ (∀ u ∈ r, u.oneCell' = true) ∧ ∃ b off, A = some ⟨b, off, none⟩ ∧ b < B ∧ ∀ j u, r[j]? = some u → w.cell? ⟨b, off + (i * sz + j), none⟩ = some u

section
variable {w w' : World} {B sz : Nat} {A : Option Addr} {m : Nat} {ds : List (List Value)}

theorem Rows.keep (h : Rows w B sz A m ds) (hb : Below B w w') : Rows w' B sz A m ds := ⟨h.len, fun i r hi => by
  obtain ⟨h1, h2, b, off, h3, h4, h5⟩ := h.at_ i r hi
  exact ⟨h1, h2, b, off, h3, h4, fun j u hu => (World.cell?_of_block (w := w) (hb.block b h4)).trans (h5 j u hu)⟩⟩

theorem Rows.more {B' : Nat} (h : Rows w B sz A m ds) (hB : B ≤ B') : Rows w B' sz A m ds := ⟨h.len, fun i r hi => by
  obtain ⟨h1, h2, b, off, h3, h4, h5⟩ := h.at_ i r hi
  exact ⟨h1, h2, b, off, h3, by omega, h5⟩⟩

theorem Rows.cells {a : Addr} (hs : 0 < sz) (h : Rows w B sz (some a) m ds) : ∀ j u, ds.flatten[j]? = some u → w.cell? (a.add j) = some u := by
  intro j u hu
  have hall : ∀ c ∈ ds, c.length = sz := fun c hc => by
    obtain ⟨i, hi⟩ := List.getElem?_of_mem hc
    exact (h.at_ i c hi).1
  have hj : j = j / sz * sz + j % sz := by have := Nat.div_add_mod j sz; rw [Nat.mul_comm] at this; omega
  rw [hj, flat_at ds hall _ _ (Nat.mod_lt _ hs)] at hu
  cases hr : ds[j / sz]? with
  | none => rw [hr] at hu; cases hu
  | some r =>
    rw [hr] at hu
    obtain ⟨_, _, b, off, e, _, h5⟩ := h.at_ _ r hr
    injection e with e
    subst e
    rw [add_plain]
    have := h5 (j % sz) u hu
    rwa [← hj] at this
end

section
variable {P : Program} (w : World)

theorem run_append_rows (base : Nat) (t ty e : TypeId) (sz bytes : Nat) (hs0 : 0 < sz) (hb0 : bytes ≤ 1000) (ht : P.underlying t = some (.slice e)) (hi : rowInfo P e sz bytes) (v : Value) (cs : List (List Value)) (hown : OwnR w base e sz v cs)
    (B : Nat) (A : Option Addr) (m c : Nat) (ds : List (List Value)) (hr : Rows w B sz A m ds) (hlen : cs.length + m ≤ 1000000) (hbase : base ≤ w.heap.size) :
    ∃ v' w', (Builtin.append_ #[t, t] ty #[v, .slice A m c]).run P w = .ok v' w' ∧ OwnR w' base e sz v' (cs ++ ds) ∧ w.grownBy w' v.ownBlock := by
  obtain ⟨i, z, hi, hz, hsz, hby, hzs⟩ := hi
  have hmx : 140737488355328 ≤ maxLen := by decide
  have hbb : (cs.length + m) * bytes ≤ 140737488355328 := Nat.le_trans (Nat.mul_le_mul (show cs.length + m ≤ 1000000 by omega) hb0) (by decide)
  rcases A with _ | ad
  · have hy : ds = [] := by
      rcases ds with _ | ⟨y, ys⟩
      · rfl
      · obtain ⟨_, _, b, off, h, _⟩ := hr.at_ 0 y rfl
        cases h
    subst hy
    have hm : m = 0 := hr.len.symm
    subst hm
    refine ⟨v, w, ?_, by simpa using hown, World.grownBy.refl w _⟩
    rcases hown.row.2 with ⟨rfl, h0⟩ | ⟨g, cap, cur, rfl, _, _, hnc, _⟩
    · simp [Builtin.append_, run_underlying ht, sizeOf, typeInfo, hi, Builtin.lenOf, Builtin.firstCells]
    · simp [Builtin.append_, run_underlying ht, sizeOf, typeInfo, hi, Builtin.lenOf, Builtin.firstCells, hnc, storeCells]
  · obtain ⟨v', w', hrun, h2, h3, _, _⟩ := run_append_own_at (P := P) w base t ty e i z sz bytes ht hi hz hsz hby hzs hs0 v cs.length cs.flatten hown.row ad m c ds.flatten (by
        rw [flat_len ds (sz := sz) (fun d hd => by obtain ⟨i, hi⟩ := List.getElem?_of_mem hd; exact (hr.at_ i d hi).1), hr.len]) (hr.cells hs0)
      (fun u hu => by
        obtain ⟨r, hr1, hr2⟩ := List.mem_flatten.1 hu
        obtain ⟨i, hi⟩ := List.getElem?_of_mem hr1
        exact (hr.at_ i r hi).2.1 u hr2) (by omega) hbb hbase
    refine ⟨v', w', hrun, ⟨?_, fun d hd => ?_⟩, h3⟩
    · rw [List.length_append, List.flatten_append, hr.len]
      exact h2
    · rcases List.mem_append.1 hd with hd | hd
      · exact hown.all d hd
      · obtain ⟨i, hi⟩ := List.getElem?_of_mem hd
        exact (hr.at_ i d hi).1

theorem step_append_rows {ops : Array Oper} {o : Oper} {a : Act} {K : Act → World → Prop} {Q : Exit → Act → World → Prop} {E : Prop} (hgd : o.guard = none) (s x : Operand) (t : TypeId)
    (ho : o.op = .call { callee := .builtin .append, args := #[s, x], argTypes := #[t, t] })
    (base : Nat) (e : TypeId) (sz bytes : Nat) (hs0 : 0 < sz) (hb0 : bytes ≤ 1000) (ht : P.underlying t = some (.slice e)) (hi : rowInfo P e sz bytes) (v : Value) (cs : List (List Value)) (hs : a.eval s = v) (hown : OwnR w base e sz v cs)
    (B : Nat) (A : Option Addr) (m c : Nat) (ds : List (List Value)) (hx : a.eval x = .slice A m c) (hr : Rows w B sz A m ds) (hlen : cs.length + m ≤ 1000000) (hbase : base ≤ w.heap.size)
    (h : ∀ v' w', OwnR w' base e sz v' (cs ++ ds) → w.grownBy w' v.ownBlock → K (a.put o.dst v') w') :
    if Region.wanted o (yielded ops a.tmps) = true then Oper.wp P o a w K Q else E := by
  rw [if_pos (by simp [Region.wanted, hgd])]
  obtain ⟨v', w', hrun, h2, h3⟩ := run_append_rows (P := P) w base t o.type e sz bytes hs0 hb0 ht hi v cs hown B A m c ds hr hlen hbase
  unfold Oper.wp execOp
  simp only [ho, resolve, invoke, builtin, Sem.run_bind, Sem.run_pure, Result.andThen_ok, List.map_toArray, List.map_cons, List.map_nil, hs, hx, hrun]
  exact h v' w' h2 h3
end

theorem ownR_new0 (w : World) (e : TypeId) (sz : Nat) : OwnR (w.alloc (.cells #[] e)) w.heap.size e sz (.slice (some ⟨w.heap.size, 0, none⟩) 0 0) [] :=
  ⟨⟨by simp, .inr ⟨w.heap.size, 0, #[], rfl, Nat.le_refl _, heap_alloc_new w _, by simp, by simp, by simp, by simp⟩⟩, fun c hc => by simp at hc⟩

theorem OwnR.le {w : World} {base base' : Nat} {e : TypeId} {sz : Nat} {v : Value} {cs : List (List Value)} (h : OwnR w base e sz v cs) (hb : base' ≤ base) : OwnR w base' e sz v cs :=
  ⟨⟨h.row.1, h.row.2.elim Or.inl (fun ⟨g, cap, cur, hv, hg, r⟩ => Or.inr ⟨g, cap, cur, hv, Nat.le_trans hb hg, r⟩)⟩, h.all⟩

theorem ownR_later (w : World) (o : Obj) (e : TypeId) (sz : Nat) : OwnR ((w.alloc o).alloc (.cells #[] e)) w.heap.size e sz (.slice (some ⟨w.heap.size + 1, 0, none⟩) 0 0) [] := by
  have h := ownR_new0 (w.alloc o) e sz
  rw [World.size_alloc] at h
  exact h.le (by omega)

/-- One row, in a block. -/
theorem rows_block {w : World} {g : Nat} {r : List Value} {e : TypeId} {fr : Nat × Nat} (h : w.heap[g]? = some (.cells r.toArray e fr)) (h1 : ∀ u ∈ r, u.oneCell' = true) : Rows w (g + 1) r.length (some ⟨g, 0, none⟩) 1 [r] := by
  refine ⟨rfl, fun i r' hi => ?_⟩
  rcases i with _ | i
  · simp only [List.getElem?_cons_zero, Option.some.injEq] at hi
    subst hi
    refine ⟨rfl, h1, g, 0, rfl, Nat.lt_succ_self _, fun j u hu => ?_⟩
    rw [Nat.zero_mul, Nat.zero_add, Nat.zero_add]
    simp [World.cell?, h, hu]
  · simp at hi

theorem two_keptR {w w2 : World} {o : Obj} {cs : Array Value} {e : TypeId} {row : Option Nat} (hg : ((w.alloc o).alloc (.cells cs e)).drew.grownBy w2 row) (hr : row = some w.heap.size) : w2.heap[w.heap.size + 1]? = some (.cells cs e (0, 0)) := by
  have h := heap_alloc_new (w.alloc o) (.cells cs e)
  rw [World.size_alloc] at h
  rw [hg.block (w.heap.size + 1) (by simp) (by rw [hr]; simp)]
  exact h

theorem two_keptR' {w w2 : World} {o : Obj} {cs : Array Value} {e : TypeId} {row : Option Nat} (hg : ((w.alloc (.cells cs e)).alloc o).drew.grownBy w2 row) (hr : row = some (w.heap.size + 1)) : w2.heap[w.heap.size]? = some (.cells cs e (0, 0)) := by
  have h := heap_alloc_new w (.cells cs e)
  rw [hg.block w.heap.size (by simp; omega) (by rw [hr]; simp)]
  exact (Below.heap_alloc (w.alloc (.cells cs e)) o w.heap.size (by simp)).trans h

end Go.Proofs.Yteonjdigcecceaa
