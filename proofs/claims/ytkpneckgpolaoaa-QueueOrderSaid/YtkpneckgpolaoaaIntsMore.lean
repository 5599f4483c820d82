/-
  append(own, s...) of slices of ints. Nothing of the program's code is named here.
-/
import Derived.Test.YtkpneckgpolaoaaIntsOwn
namespace Go.Proofs.Ytkpneckgpolaoaa
open Go.RowKit Go.ChangeShapes Go.WideShapes

theorem nums_cells {w : World} {B : Nat} {a : Addr} {n : Nat} {zs : List Int} (h : Nums w B (some a) n zs) : ∀ j u, (zs.map (Value.int .i64))[j]? = some u → w.cell? (a.add j) = some u := by
  intro j u hu
  rw [List.getElem?_map, Option.map_eq_some_iff] at hu
  obtain ⟨z, hz, rfl⟩ := hu
  obtain ⟨hl, hzq⟩ := List.getElem?_eq_some_iff.1 hz
  obtain ⟨_, _, b, off, e, _, hc⟩ := h.2 j hl
  injection e with e
  subst e
  rw [add_plain, ← hzq]
  exact hc

section
variable {P : Program} (w : World)

theorem run_append_nums (base : Nat) (t ty e : TypeId) (ht : P.underlying t = some (.slice e)) (hi : intInfo P e) (v : Value) (xs : List Int) (hown : OwnI w base e v xs)
    (B : Nat) (A : Option Addr) (m c : Nat) (ys : List Int) (hr : Nums w B A m ys) (hlen : xs.length + m ≤ 1000000000000) (hbase : base ≤ w.heap.size) :
    ∃ v' w', (Builtin.append_ #[t, t] ty #[v, .slice A m c]).run P w = .ok v' w' ∧ OwnI w' base e v' (xs ++ ys) ∧ w.grownBy w' v.ownBlock := by
  obtain ⟨i, hi, hz, hsz, hby⟩ := hi
  have hmx : 140737488355328 ≤ maxLen := by decide
  rcases A with _ | ad
  · have hy : ys = [] := by
      rcases ys with _ | ⟨y, ys⟩
      · rfl
      · obtain ⟨_, _, b, off, h, _⟩ := hr.2 0 (by simp)
        cases h
    subst hy
    have hm : m = 0 := hr.1.symm
    subst hm
    refine ⟨v, w, ?_, by simpa using hown, World.grownBy.refl w _⟩
    rcases hown.2 with ⟨rfl, h0⟩ | ⟨g, cap, cur, rfl, _, _, hnc, _⟩
    · simp [Builtin.append_, run_underlying ht, sizeOf, typeInfo, hi, Builtin.lenOf, Builtin.firstCells]
    · simp [Builtin.append_, run_underlying ht, sizeOf, typeInfo, hi, Builtin.lenOf, Builtin.firstCells, hnc, storeCells]
  · obtain ⟨v', w', hrun, h2, h3, _, h5⟩ := run_append_own_at (P := P) w base t ty e i (.int .i64 0) 1 8 ht hi hz hsz hby rfl (by omega) v xs.length (xs.map (Value.int .i64)) hown ad m c (ys.map (Value.int .i64)) (by simp [hr.1]) (nums_cells hr)
      (fun u hu => by obtain ⟨x, _, rfl⟩ := List.mem_map.1 hu; rfl) (by omega) (by omega) hbase
    refine ⟨v', w', hrun, ?_, h3⟩
    unfold OwnI
    rw [List.map_append, List.length_append, hr.1]
    exact h2

theorem wpList_append_nums {ops : Array Oper} {rest : List Oper} {o : Oper} {a : Act} {Q : Exit → Act → World → Prop} (hgd : o.guard = none) (s x : Operand) (t : TypeId)
    (ho : o.op = .call { callee := .builtin .append, args := #[s, x], argTypes := #[t, t] })
    (base : Nat) (e : TypeId) (ht : P.underlying t = some (.slice e)) (hi : intInfo P e) (v : Value) (xs : List Int) (hs : a.eval s = v) (hown : OwnI w base e v xs)
    (B : Nat) (A : Option Addr) (m c : Nat) (ys : List Int) (hx : a.eval x = .slice A m c) (hr : Nums w B A m ys) (hlen : xs.length + m ≤ 1000000000000) (hbase : base ≤ w.heap.size)
    (h : ∀ v' w', OwnI w' base e v' (xs ++ ys) → w.grownBy w' v.ownBlock → wpList P ops Q rest (a.put o.dst v') w') : wpList P ops Q (o :: rest) a w :=
  wpList_plain hgd fun _ hK => by
    obtain ⟨v', w', hrun, h2, h3⟩ := run_append_nums (P := P) w base t o.type e ht hi v xs hown B A m c ys hr hlen hbase
    unfold Oper.wp execOp
    simp only [ho, resolve, invoke, builtin, Sem.run_bind, Sem.run_pure, Result.andThen_ok, List.map_toArray, List.map_cons, List.map_nil, hs, hx, hrun]
    exact hK _ _ (h v' w' h2 h3)

theorem step_append_nums {ops : Array Oper} {o : Oper} {a : Act} {K : Act → World → Prop} {Q : Exit → Act → World → Prop} {E : Prop} (hgd : o.guard = none) (s x : Operand) (t : TypeId)
    (ho : o.op = .call { callee := .builtin .append, args := #[s, x], argTypes := #[t, t] })
    (base : Nat) (e : TypeId) (ht : P.underlying t = some (.slice e)) (hi : intInfo P e) (v : Value) (xs : List Int) (hs : a.eval s = v) (hown : OwnI w base e v xs)
    (B : Nat) (A : Option Addr) (m c : Nat) (ys : List Int) (hx : a.eval x = .slice A m c) (hr : Nums w B A m ys) (hlen : xs.length + m ≤ 1000000000000) (hbase : base ≤ w.heap.size)
    (h : ∀ v' w', OwnI w' base e v' (xs ++ ys) → w.grownBy w' v.ownBlock → K (a.put o.dst v') w') :
    if Region.wanted o (yielded ops a.tmps) = true then Oper.wp P o a w K Q else E := by
  rw [if_pos (by simp [Region.wanted, hgd])]
  obtain ⟨v', w', hrun, h2, h3⟩ := run_append_nums (P := P) w base t o.type e ht hi v xs hown B A m c ys hr hlen hbase
  unfold Oper.wp execOp
  simp only [ho, resolve, invoke, builtin, Sem.run_bind, Sem.run_pure, Result.andThen_ok, List.map_toArray, List.map_cons, List.map_nil, hs, hx, hrun]
  exact h v' w' h2 h3
end

theorem nums_block {w : World} {g : Nat} {cs : Array Value} {e : TypeId} {fr : Nat × Nat} (z : Int) (h0 : -9223372036854775808 ≤ z) (h1 : z ≤ 9223372036854775807) (h : w.heap[g]? = some (.cells cs e fr)) (hc : cs = #[.int .i64 z]) : Nums w (g + 1) (some ⟨g, 0, none⟩) 1 [z] := by
  subst hc
  refine ⟨rfl, fun i hi => ?_⟩
  have hi0 : i = 0 := by simpa using hi
  subst hi0
  exact ⟨h0, h1, g, 0, rfl, Nat.lt_succ_self _, by simp [World.cell?, h]⟩

theorem two_kept {w w2 : World} {o : Obj} {cs : Array Value} {e : TypeId} {row : Option Nat} (hg : ((w.alloc o).alloc (.cells cs e)).drew.grownBy w2 row) (hr : row = some w.heap.size) : w2.heap[w.heap.size + 1]? = some (.cells cs e) := by
  have h := heap_alloc_new (w.alloc o) (.cells cs e)
  rw [World.size_alloc] at h
  rw [hg.block (w.heap.size + 1) (by simp) (by rw [hr]; simp)]
  exact h

theorem two_kept' {w w2 : World} {o : Obj} {cs : Array Value} {e : TypeId} {row : Option Nat} (hg : ((w.alloc (.cells cs e)).alloc o).drew.grownBy w2 row) (hr : row = some (w.heap.size + 1)) : w2.heap[w.heap.size]? = some (.cells cs e) := by
  have h := heap_alloc_new w (.cells cs e)
  rw [hg.block w.heap.size (by simp; omega) (by rw [hr]; simp)]
  exact (Below.heap_alloc (w.alloc (.cells cs e)) o w.heap.size (by simp)).trans h

theorem ownI_new0 (w : World) (e : TypeId) : OwnI (w.alloc (.cells #[] e)) w.heap.size e (.slice (some ⟨w.heap.size, 0, none⟩) 0 0) [] :=
  ⟨rfl, .inr ⟨w.heap.size, 0, #[], rfl, Nat.le_refl _, heap_alloc_new w _, by simp, by simp, by simp, by simp⟩⟩

theorem ownI_later (w : World) (o : Obj) {e : TypeId} : OwnI ((w.alloc o).alloc (.cells #[] e)) w.heap.size e (.slice (some ⟨w.heap.size + 1, 0, none⟩) 0 0) [] := by
  have h := ownI_new0 (w.alloc o) e
  rw [World.size_alloc] at h
  exact h.le (by omega)
end Go.Proofs.Ytkpneckgpolaoaa
