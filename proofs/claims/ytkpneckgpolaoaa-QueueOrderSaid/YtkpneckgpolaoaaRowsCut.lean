/-
  The first rows of a slice of rows cut off in place: append(s[:0], s[j:]...), and the rest cleared. Nothing of the program's code is named here.
-/
import Derived.Test.YtkpneckgpolaoaaRowsOwn
import Derived.Test.YtkpneckgpolaoaaBag
import Derived.Laws.CopyRow
namespace Go.Proofs.Ytkpneckgpolaoaa
open Go.RowKit Go.ChangeShapes Go.WideShapes

theorem grown_setRow {w : World} {g : Nat} {cur : Array Value} {e : TypeId} (h : w.heap[g]? = some (.cells cur e (0, 0))) (cs : Array Value) : w.grownBy (w.setRow g cs) (some g) ∧ (w.setRow g cs).heap[g]? = some (.cells cs e (0, 0)) := by
  refine ⟨⟨rfl, rfl, rfl, by simp [World.setRow], fun k _ hk => ?_⟩, setRow_heap w g cur cs e _ h⟩
  have hne : g ≠ k := fun e => hk (by rw [e])
  simp [World.setRow, Array.getElem?_modify, hne]

section
variable {P : Program} {w : World} {g : Nat} {cur : Array Value} {e : TypeId}

theorem run_append_cut (t : TypeId) (sz bytes : Nat) (ht : P.underlying t = some (.slice e)) (hi : rowInfo P e sz bytes) (h : w.heap[g]? = some (.cells cur e (0, 0))) (cap j n cc : Nat) (hj : j ≤ n) (hn : n ≤ cap) (hcur : cur.size = cap * sz) (h1 : ∀ u ∈ (cur.toList.drop (j * sz)).take ((n - j) * sz), u.oneCell' = true) (ad : Addr) (had : j < n → ad = ⟨g, j * sz, none⟩) :
    ∃ w', (∀ ty, (Builtin.append_ #[t, t] ty #[.slice (some ⟨g, 0, none⟩) 0 cap, .slice (some ad) (n - j) cc]).run P w = .ok (.slice (some ⟨g, 0, none⟩) (n - j) cap) w') ∧
      w'.heap[g]? = some (.cells ((cur.toList.drop (j * sz)).take ((n - j) * sz) ++ cur.toList.drop ((n - j) * sz)).toArray e (0, 0)) ∧ w.grownBy w' (some g) := by
  obtain ⟨i, z, hi, hz, hsz, hby, hzs⟩ := hi
  obtain ⟨news, hnews⟩ : ∃ news, news = (cur.toList.drop (j * sz)).take ((n - j) * sz) := ⟨_, rfl⟩
  have hjn : (n - j) * sz + j * sz ≤ cap * sz := by rw [← Nat.add_mul]; exact Nat.mul_le_mul_right _ (by omega)
  have hln : news.length = (n - j) * sz := by rw [hnews]; simp; omega
  have hl := run_loadCells_list (P := P) w ad news (fun k v hv => by
    have hk := (List.getElem?_eq_some_iff.1 hv).1
    have hjn2 : j < n := by
      rcases Nat.lt_or_ge j n with h | h
      · exact h
      · rw [show n - j = 0 by omega] at hln
        omega
    rw [had hjn2, add_plain]
    rw [hnews, List.getElem?_take] at hv
    split at hv
    · rw [List.getElem?_drop, Array.getElem?_toList] at hv
      simp only [World.cell?, h]
      exact hv
    · cases hv)
  have hst := run_storeCells_at P g 0 e news 0 cur w h (by omega) (fun v hv => h1 v (by rw [hnews] at hv; exact hv))
  obtain ⟨hg1, hg2⟩ := grown_setRow h (news ++ cur.toList.drop ((n - j) * sz)).toArray
  refine ⟨_, fun ty => ?_, by rw [← hnews]; exact hg2, hg1⟩
  rw [hln] at hl
  have hle : n - j ≤ cap := by omega
  have hadd : (⟨g, 0, none⟩ : Addr).add 0 = ⟨g, 0, none⟩ := by rw [add_plain]
  simp [Builtin.append_, run_underlying ht, sizeOf, typeInfo, hi, hsz, Builtin.lenOf, Builtin.firstCells, hle, hl, hadd, hst, hln]

theorem run_clear_rows (t : TypeId) (sz bytes : Nat) (ht : P.underlying t = some (.slice e)) (hi : rowInfo P e sz bytes) (h0 : ∀ i, P.info? e = some i → ∀ z, i.zero = some z → ∀ u ∈ z.cells.toList, u.oneCell' = true) (h : w.heap[g]? = some (.cells cur e (0, 0))) (o n c : Nat) (hn : 0 < n) (ho : o + n * sz ≤ cur.size) :
    ∃ w' zs, (∀ ty, (Builtin.clear_ #[t] ty #[.slice (some ⟨g, o, none⟩) n c]).run P w = .ok (.tuple #[]) w') ∧ zs.length = n * sz ∧ (∀ u ∈ zs, u.oneCell' = true) ∧
      w'.heap[g]? = some (.cells (cur.toList.take o ++ zs ++ cur.toList.drop (o + n * sz)).toArray e (0, 0)) ∧ w.grownBy w' (some g) := by
  obtain ⟨i, z, hi, hz, hsz, hby, hzs⟩ := hi
  obtain ⟨zs, hzz⟩ : ∃ zs, zs = (Builtin.zeroCells z.cells n).toList := ⟨_, rfl⟩
  have hln : zs.length = n * sz := by rw [hzz]; simp [Builtin.zeroCells, hzs]
  have h1 : ∀ u ∈ zs, u.oneCell' = true := by
    intro u hu
    rw [hzz] at hu
    simp only [Builtin.zeroCells, Array.toList_map, List.mem_map] at hu
    obtain ⟨k, hk, rfl⟩ := hu
    have hs : 0 < z.cells.size := by
      rcases Nat.eq_zero_or_pos z.cells.size with e | e
      · rw [e] at hk
        simp at hk
      · exact e
    have hlt : k % z.cells.size < z.cells.size := Nat.mod_lt _ hs
    rw [getElem!_pos z.cells (k % z.cells.size) hlt]
    exact h0 i hi z hz _ (Array.getElem_mem_toList hlt)
  have hst := run_storeCells_at P g o e zs 0 cur w h (by omega) h1
  obtain ⟨hg1, hg2⟩ := grown_setRow h (cur.toList.take o ++ zs ++ cur.toList.drop (o + n * sz)).toArray
  refine ⟨_, zs, fun ty => ?_, hln, h1, hg2, hg1⟩
  obtain ⟨m, rfl⟩ : ∃ m, n = m + 1 := ⟨n - 1, by omega⟩
  rw [hzz] at hst
  have hln2 : (Builtin.zeroCells z.cells (m + 1)).toList.length = (m + 1) * sz := by rw [← hzz]; exact hln
  simp [Builtin.clear_, run_underlying ht, zeroValue, typeInfo, hi, hz]
  rw [hst, hzz, hln2]
  simp
end

/-- An append in a drawn region, by its run. -/
theorem step_append_run {P : Program} {w w' : World} {ops : Array Oper} {o : Oper} {a : Act} {K : Act → World → Prop} {Q : Exit → Act → World → Prop} {E : Prop} (hgd : o.guard = none) (s x : Operand) (t : TypeId)
    (ho : o.op = .call { callee := .builtin .append, args := #[s, x], argTypes := #[t, t] }) (v1 v2 v' : Value) (hs : a.eval s = v1) (hx : a.eval x = v2) (hrun : ∀ ty, (Builtin.append_ #[t, t] ty #[v1, v2]).run P w = .ok v' w') (h : K (a.put o.dst v') w') :
    if Region.wanted o (yielded ops a.tmps) = true then Oper.wp P o a w K Q else E := by
  rw [if_pos (by simp [Region.wanted, hgd])]
  unfold Oper.wp execOp
  simp only [ho, resolve, invoke, builtin, Sem.run_bind, Sem.run_pure, Result.andThen_ok, List.map_toArray, List.map_cons, List.map_nil, hs, hx, hrun]
  exact h

/-- What is left behind the cut. -/
theorem OwnR.cut {w w' : World} {base : Nat} {e : TypeId} {sz g c : Nat} {cs : List (List Value)} {cur zs : List Value} (h : OwnR w base e sz (.slice (some ⟨g, 0, none⟩) cs.length c) cs) (j : Nat) (hj : j ≤ cs.length)
    (hcur : w.heap[g]? = some (.cells cur.toArray e (0, 0))) (hz : zs.length = j * sz)
    (h' : w'.heap[g]? = some (.cells (((cur.drop (j * sz)).take ((cs.length - j) * sz) ++ cur.drop ((cs.length - j) * sz)).take ((cs.length - j) * sz) ++ zs ++ ((cur.drop (j * sz)).take ((cs.length - j) * sz) ++ cur.drop ((cs.length - j) * sz)).drop ((cs.length - j) * sz + j * sz)).toArray e (0, 0))) :
    OwnR w' base e sz (.slice (some ⟨g, 0, none⟩) (cs.length - j) c) (cs.drop j) := by
  have hall : ∀ d ∈ cs.drop j, d.length = sz := fun d hd => h.all d (List.mem_of_mem_drop hd)
  rcases h.row.2 with ⟨hv, _⟩ | ⟨g', cap', cur', hv, hb, hg, hnc, hcm, hcs, ht⟩
  · cases hv
  · injection hv with h1 h2 h3
    injection h1 with h1
    injection h1 with h1
    subst h1 h3
    rw [hcur] at hg
    injection hg with hg
    injection hg with hg
    subst hg
    have hsum : (cs.length - j) * sz + j * sz = cs.length * sz := by rw [← Nat.add_mul]; congr 1; omega
    have hcl : cs.length * sz ≤ c * sz := Nat.mul_le_mul_right _ hnc
    have hcs' : cur.length = c * sz := by simpa using hcs
    have hln : ((cur.drop (j * sz)).take ((cs.length - j) * sz)).length = (cs.length - j) * sz := by simp; omega
    have hflat : (cs.drop j).flatten.length = (cs.length - j) * sz := by rw [flat_len _ hall, List.length_drop]
    refine ⟨⟨flat_len _ hall, .inr ⟨g, c, _, by rw [List.length_drop], hb, h', by rw [List.length_drop]; omega, hcm, ?_, ?_⟩⟩, hall⟩
    · simp only [List.size_toArray, List.length_append, List.length_take, List.length_drop, hz, hcs']
      omega
    · simp only [List.length_drop]
      rw [List.append_assoc, List.take_append_of_le_length (by simp; omega), List.take_take, Nat.min_self, List.take_append_of_le_length (by rw [hln]; exact Nat.le_refl _), List.take_of_length_le (by rw [hln]; exact Nat.le_refl _), ← flat_drop cs h.all, ← ht]
      rw [List.drop_take, ← hsum]
      simp

end Go.Proofs.Ytkpneckgpolaoaa
