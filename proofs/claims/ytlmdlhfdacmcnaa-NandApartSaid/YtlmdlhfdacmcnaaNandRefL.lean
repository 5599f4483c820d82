/-
  The document's log: one event more; what an event reads as.
-/
import Derived.Test.YtlmdlhfdacmcnaaNandRefS
namespace Go.Proofs.Ytlmdlhfdacmcnaa.NandRef
open Go.RowKit Nand NandPkg Go.ChangeShapes Go.WideShapes
set_option maxRecDepth 4000

abbrev evCells (e : Ev) (A : Option Addr) (n c : Nat) (A' : Option Addr) (n' c' : Nat) : List Value := [.int .i64 e.u, .int .i64 e.b, .int .i64 e.g, .slice A n c, .slice A' n' c']

theorem info_ev : (Try.prog.info? 104).map (fun i => (i.zero, i.size, i.bytes)) = some (some (.agg #[.int .i64 0, .int .i64 0, .int .i64 0, .slice none 0 0, .slice none 0 0]), 5, 72) := by kernel_rfl

theorem five_of_block (w : World) (a b c d f : Value) (e : TypeId) : ∀ j u, ([a, b, c, d, f] : List Value)[j]? = some u → (w.alloc (.cells #[a, b, c, d, f] e)).cell? (Addr.add ⟨w.heap.size, 0, none⟩ j) = some u := by
  intro j u hu
  rw [add_plain, Nat.zero_add]
  simp only [World.cell?, World.alloc, Array.getElem?_push_size]
  rw [← hu]
  simp

theorem ownsRow_keep {w w' : World} {base : Nat} {e : TypeId} {size : Nat} {v : Value} {n : Nat} {xs : List Value} (h : w.ownsRow base e size v n xs) (hk : ∀ b, v.ownBlock = some b → w'.heap[b]? = w.heap[b]?) : w'.ownsRow base e size v n xs := by
  refine ⟨h.1, ?_⟩
  rcases h.2 with h0 | ⟨g, cap, cur, rfl, hg, hh, r⟩
  · exact .inl h0
  · exact .inr ⟨g, cap, cur, rfl, hg, (hk g rfl).trans hh, r⟩

theorem ownsRow_lt {w : World} {base : Nat} {e : TypeId} {size : Nat} {v : Value} {n : Nat} {xs : List Value} (h : w.ownsRow base e size v n xs) : ∀ k, v.ownBlock = some k → k < w.heap.size := by
  intro k hk
  rcases h.2 with ⟨rfl, _⟩ | ⟨g, cap, cur, rfl, _, hh, _⟩
  · simp [Value.ownBlock] at hk
  · simp [Value.ownBlock] at hk
    subst hk
    exact (Array.getElem?_eq_some_iff.1 hh).1

theorem Log.form {w : World} {D : Nat → Prop} {v : Value} {evs : List Ev} (h : Log w D v evs) : ∃ A c, v = .slice A evs.length c := by
  obtain ⟨cs, h1, _⟩ := h
  rcases h1.2 with ⟨rfl, h0⟩ | ⟨g, cap, cur, rfl, _⟩
  · exact ⟨_, _, by rw [h0]⟩
  · exact ⟨_, _, rfl⟩

theorem Log.lt {w : World} {D : Nat → Prop} {v : Value} {evs : List Ev} (h : Log w D v evs) : ∀ k, v.ownBlock = some k → k < w.heap.size := by
  obtain ⟨cs, h1, _⟩ := h
  exact ownsRow_lt h1

theorem log_nil (w : World) (D : Nat → Prop) : Log w D (.slice none 0 0) [] := ⟨[], ⟨rfl, .inl ⟨rfl, rfl⟩⟩, fun i e h => by simp at h⟩

/-- An event's cells. -/
theorem Log.at_ {w : World} {D : Nat → Prop} {A0 : Option Addr} {n0 c0 : Nat} {evs : List Ev} (h : Log w D (.slice A0 n0 c0) evs) {i : Nat} {e : Ev} (he : evs[i]? = some e) :
    ∃ g A n c A' n' c', A0 = some ⟨g, 0, none⟩ ∧ w.cell? ⟨g, i * 5, none⟩ = some (.int .i64 e.u) ∧ w.cell? ⟨g, i * 5 + 1, none⟩ = some (.int .i64 e.b) ∧ w.cell? ⟨g, i * 5 + 2, none⟩ = some (.int .i64 e.g) ∧ w.cell? ⟨g, i * 5 + 3, none⟩ = some (.slice A n c) ∧ w.cell? ⟨g, i * 5 + 4, none⟩ = some (.slice A' n' c') ∧ n ≤ 100 ∧ n' ≤ 100 ∧ Lies w D A n e.dat ∧ Lies w D A' n' e.oob ∧ n ≤ n' ∧ g < w.heap.size := by
  obtain ⟨cs, h1, h2⟩ := h
  obtain ⟨A, n, c, A', n', c', k0, k1, k2, k3, k4, k5, k6, k7, k8, k9⟩ := h2 i e he
  have hi := (List.getElem?_eq_some_iff.1 he).1
  rcases h1.2 with ⟨h0, h3⟩ | ⟨g, cap, cur, hv, _, hg, hnc, hcm, hcs, ht⟩
  · omega
  · injection hv with hv1 hv2 hv3
    have hc : ∀ j v, j < evs.length * 5 → cs[j]? = some v → w.cell? ⟨g, j, none⟩ = some v := fun j v hj hjv => by
      rw [← ht, List.getElem?_take, if_pos hj, Array.getElem?_toList] at hjv
      simp only [World.cell?, hg]
      exact hjv
    exact ⟨g, A, n, c, A', n', c', hv1, hc _ _ (by omega) k0, hc _ _ (by omega) k1, hc _ _ (by omega) k2, hc _ _ (by omega) k3, hc _ _ (by omega) k4, k5, k6, k7, k8, k9, (Array.getElem?_eq_some_iff.1 hg).1⟩

section
variable (w : World)

/-- append(log, e), the new block of the event just laid. -/
theorem run_append_event (ty : TypeId) (D : Nat → Prop) (v : Value) (evs : List Ev) (hl : Log w D v evs) (e : Ev) (A : Option Addr) (n c : Nat) (A' : Option Addr) (n' c' : Nat) (hn : n ≤ 100) (hn' : n' ≤ 100) (h1 : Lies w D A n e.dat) (h2 : Lies w D A' n' e.oob) (hnn : n ≤ n')
    (hD : ∀ b, D b → b < w.heap.size ∧ v.ownBlock ≠ some b) (hlen : evs.length ≤ 1000000000) :
    ∃ v' w', (Builtin.append_ #[51, 51] ty #[v, .slice (some ⟨w.heap.size, 0, none⟩) 1 1]).run Try.prog (w.alloc (.cells #[.int .i64 e.u, .int .i64 e.b, .int .i64 e.g, .slice A n c, .slice A' n' c'] 104)) = .ok v' w' ∧ Log w' D v' (evs ++ [e]) ∧
      w.grownBy w' v.ownBlock ∧ (∀ b, v'.ownBlock = some b → v.ownBlock = some b ∨ w.heap.size ≤ b) := by
  obtain ⟨i, hi, hzz⟩ := Option.map_eq_some_iff.1 info_ev
  simp only [Prod.mk.injEq] at hzz
  obtain ⟨hz, hs, hb⟩ := hzz
  obtain ⟨cs, h3, h4⟩ := hl
  have hmx : (140737488355328 : Nat) ≤ maxLen := by decide
  have hsz1 : (w.alloc (.cells #[.int .i64 e.u, .int .i64 e.b, .int .i64 e.g, .slice A n c, .slice A' n' c'] 104)).heap.size = w.heap.size + 1 := by simp
  obtain ⟨v', w', hrun, k2, k3, _, k5⟩ := run_append_own_at (P := Try.prog) (w.alloc (.cells #[.int .i64 e.u, .int .i64 e.b, .int .i64 e.g, .slice A n c, .slice A' n' c'] 104)) 0 51 ty 104 i (.agg #[.int .i64 0, .int .i64 0, .int .i64 0, .slice none 0 0, .slice none 0 0]) 5 72 Try.underlying51 hi hz hs hb rfl (by omega) v evs.length cs (ownsRow_keep h3 (fun b hb => Below.heap_alloc w _ b (ownsRow_lt h3 b hb))) ⟨w.heap.size, 0, none⟩ 1 1 (evCells e A n c A' n' c') rfl (five_of_block w _ _ _ _ _ _)
      (fun u hu => by simp at hu; rcases hu with rfl | rfl | rfl | rfl | rfl <;> rfl) (by omega) (by omega) (Nat.zero_le _)
  have hg : w.grownBy w' v.ownBlock := (World.grownBy_alloc w _ _).trans k3
  have hcl : cs.length = evs.length * 5 := h3.1
  refine ⟨v', w', hrun, ⟨cs ++ evCells e A n c A' n' c', by rw [List.length_append]; exact k2, fun j x hx => ?_⟩, hg, fun b hb => k5.imp (fun h => h.symm.trans hb) (fun h => by rw [hb, hsz1] at h; injection h; omega)⟩
  have hk : ∀ b, D b → w'.heap[b]? = w.heap[b]? := fun b hb => hg.block b (hD b hb).1 (fun e => (hD b hb).2 e.symm)
  rcases Nat.lt_or_ge j evs.length with hj | hj
  · rw [List.getElem?_append_left hj] at hx
    exact (h4 j x hx).keep (fun _ h => h) hk (fun q y hq => by rw [List.getElem?_append_left (List.getElem?_eq_some_iff.1 hq).1]; exact hq)
  · rw [List.getElem?_append_right hj] at hx
    have hjz : j - evs.length = 0 := by
      have := (List.getElem?_eq_some_iff.1 hx).1
      simp at this
      omega
    rw [hjz] at hx
    simp at hx
    subst hx
    have ej : j = evs.length := by omega
    subst ej
    have hr : ∀ q, q < 5 → (cs ++ evCells e A n c A' n' c')[evs.length * 5 + q]? = (evCells e A n c A' n' c')[q]? := fun q hq => by
      rw [List.getElem?_append_right (by omega)]
      congr 1
      omega
    exact ⟨A, n, c, A', n', c', (hr 0 (by omega)), (hr 1 (by omega)), (hr 2 (by omega)), (hr 3 (by omega)), (hr 4 (by omega)), hn, hn', h1.keep (fun _ h => h) hk, h2.keep (fun _ h => h) hk, hnn⟩

theorem wp_append_event {o : Oper} {a : Act} {K : Act → World → Prop} {Q : Exit → Act → World → Prop} (s x : Operand)
    (ho : o.op = .call { callee := .builtin .append, args := #[s, x], argTypes := #[51, 51] })
    (D : Nat → Prop) (v : Value) (evs : List Ev) (hs : a.eval s = v) (hl : Log w D v evs) (e : Ev) (A : Option Addr) (n c : Nat) (A' : Option Addr) (n' c' : Nat) (hx : a.eval x = .slice (some ⟨w.heap.size, 0, none⟩) 1 1) (hn : n ≤ 100) (hn' : n' ≤ 100) (h1 : Lies w D A n e.dat) (h2 : Lies w D A' n' e.oob) (hnn : n ≤ n')
    (hD : ∀ b, D b → b < w.heap.size ∧ v.ownBlock ≠ some b) (hlen : evs.length ≤ 1000000000)
    (h : ∀ v' w', Log w' D v' (evs ++ [e]) → w.grownBy w' v.ownBlock → (∀ b, v'.ownBlock = some b → v.ownBlock = some b ∨ w.heap.size ≤ b) → K (a.put o.dst v') w') :
    o.wp Try.prog a (w.alloc (.cells #[.int .i64 e.u, .int .i64 e.b, .int .i64 e.g, .slice A n c, .slice A' n' c'] 104)) K Q := by
  obtain ⟨v', w', hrun, k2, k3, k4⟩ := run_append_event w o.type D v evs hl e A n c A' n' c' hn hn' h1 h2 hnn hD hlen
  unfold Oper.wp execOp
  simp only [ho, resolve, invoke, builtin, Sem.run_bind, Sem.run_pure, Result.andThen_ok, List.map_toArray, List.map_cons, List.map_nil, hs, hx, hrun]
  exact h v' w' k2 k3 k4

theorem wpList_append_event {ops : Array Oper} {rest : List Oper} {o : Oper} {a : Act} {Q : Exit → Act → World → Prop} (hgd : o.guard = none) (s x : Operand)
    (ho : o.op = .call { callee := .builtin .append, args := #[s, x], argTypes := #[51, 51] })
    (D : Nat → Prop) (v : Value) (evs : List Ev) (hs : a.eval s = v) (hl : Log w D v evs) (e : Ev) (A : Option Addr) (n c : Nat) (A' : Option Addr) (n' c' : Nat) (hx : a.eval x = .slice (some ⟨w.heap.size, 0, none⟩) 1 1) (hn : n ≤ 100) (hn' : n' ≤ 100) (h1 : Lies w D A n e.dat) (h2 : Lies w D A' n' e.oob) (hnn : n ≤ n')
    (hD : ∀ b, D b → b < w.heap.size ∧ v.ownBlock ≠ some b) (hlen : evs.length ≤ 1000000000)
    (h : ∀ v' w', Log w' D v' (evs ++ [e]) → w.grownBy w' v.ownBlock → (∀ b, v'.ownBlock = some b → v.ownBlock = some b ∨ w.heap.size ≤ b) → wpList Try.prog ops Q rest (a.put o.dst v') w') :
    wpList Try.prog ops Q (o :: rest) a (w.alloc (.cells #[.int .i64 e.u, .int .i64 e.b, .int .i64 e.g, .slice A n c, .slice A' n' c'] 104)) :=
  wpList_plain hgd fun _ hK => wp_append_event w s x ho D v evs hs hl e A n c A' n' c' hx hn hn' h1 h2 hnn hD hlen fun v' w' k2 k3 k4 => hK _ _ (h v' w' k2 k3 k4)

/-- The same as one step of a region that draws its order. -/
theorem step_append_event {ops : Array Oper} {o : Oper} {a : Act} {K : Act → World → Prop} {Q : Exit → Act → World → Prop} {E : Prop} (hgd : o.guard = none) (s x : Operand)
    (ho : o.op = .call { callee := .builtin .append, args := #[s, x], argTypes := #[51, 51] })
    (D : Nat → Prop) (v : Value) (evs : List Ev) (hs : a.eval s = v) (hl : Log w D v evs) (e : Ev) (A : Option Addr) (n c : Nat) (A' : Option Addr) (n' c' : Nat) (hx : a.eval x = .slice (some ⟨w.heap.size, 0, none⟩) 1 1) (hn : n ≤ 100) (hn' : n' ≤ 100) (h1 : Lies w D A n e.dat) (h2 : Lies w D A' n' e.oob) (hnn : n ≤ n')
    (hD : ∀ b, D b → b < w.heap.size ∧ v.ownBlock ≠ some b) (hlen : evs.length ≤ 1000000000)
    (h : ∀ v' w', Log w' D v' (evs ++ [e]) → w.grownBy w' v.ownBlock → (∀ b, v'.ownBlock = some b → v.ownBlock = some b ∨ w.heap.size ≤ b) → K (a.put o.dst v') w') :
    if Region.wanted o (yielded ops a.tmps) = true then Oper.wp Try.prog o a (w.alloc (.cells #[.int .i64 e.u, .int .i64 e.b, .int .i64 e.g, .slice A n c, .slice A' n' c'] 104)) K Q else E := by
  rw [if_pos (by simp [Region.wanted, hgd])]
  exact wp_append_event w s x ho D v evs hs hl e A n c A' n' c' hx hn hn' h1 h2 hnn hD hlen h
end

section
variable {G : Shape} {w w' : World} {P : Pl} {st : St}

/-- The log anew: its value, and what it leads to. -/
theorem Ref.set_log (h : Ref G w P st) (hg : w.grownBy w' P.lv.ownBlock) {v' : Value} {K' : Nat → Nat} {evs : List Ev} {rd : Int → Option (List UInt8 × List UInt8)} (hK : ∀ b, P.own b → K' b = P.K b) (hn : ∀ b, K' b ≠ 0 → b < w'.heap.size) (hl : Log w' (fun b => K' b = 7) v' evs) (ht : Tells G evs rd) (hv : ∀ b, v'.ownBlock = some b → K' b = 6) {J' : Nat} (hJ : evs.length ≤ J') :
    Ref G (w'.setCell ⟨P.g, 6, none⟩ v') { P with lv := v', K := K', J := J' } { st with rd := rd } := by
  have a := h.apart
  have hgk : ∀ b j, P.K b = j → j ≠ 0 → j ≠ 6 → w'.heap[b]? = w.heap[b]? := fun b j hb hj hne => hg.block b (h.lt b (own_of P hb hj)) (fun e => hne (by rw [← hb]; exact a.l b e.symm))
  have hg2 := grown_setCell w' ⟨P.g, 6, none⟩ v'
  have hh : w'.heap[P.g]? = some (.cells (headCells G P st.off st.wrong) 54 (0, 0)) := (hgk P.g 1 a.g (by omega) (by omega)).trans h.head
  have hs : ∀ b j, P.K b = j → j ≠ 0 → j ≠ 6 → j ≠ 1 → (w'.setCell ⟨P.g, 6, none⟩ v').heap[b]? = w.heap[b]? := fun b j hb hj h6 h1 => (hg2.block b (Nat.lt_of_lt_of_le (h.lt b (own_of P hb hj)) hg.size) (fun e => h1 (by injection e with e; rw [← hb, e]; exact a.g))).trans (hgk b j hb hj h6)
  have kg : K' P.g = 1 := (hK _ (own_of P a.g (by omega))).trans a.g
  have hs2 : ∀ b, K' b ≠ 1 → b < w'.heap.size → (w'.setCell ⟨P.g, 6, none⟩ v').heap[b]? = w'.heap[b]? := fun b hb hlt => hg2.block b hlt (fun e => hb (by injection e with e; rw [e]; exact kg))
  refine ⟨by simp [World.setCell, Array.getElem?_modify, hh, headCells], h.rn.of_block (hs _ 2 a.n (by omega) (by omega) (by omega)), h.rw.of_block (hs _ 3 a.w (by omega) (by omega) (by omega)), h.rr.of_block (hs _ 4 a.r (by omega) (by omega) (by omega)), ?_, ⟨evs, hl.keep (fun b hb => hs2 b (by rw [hv b hb]; omega) (hl.lt b hb)) (fun _ h => h) (fun b hb => hs2 b (by have hb : K' b = 7 := hb; omega) (hn b (by have hb : K' b = 7 := hb; omega))), ht, hJ⟩,
    ⟨kg, (hK _ (own_of P a.n (by omega))).trans a.n, (hK _ (own_of P a.w (by omega))).trans a.w, (hK _ (own_of P a.r (by omega))).trans a.r, fun b h1 h2 => (hK _ (own_of P (a.p b h1 h2) (by omega))).trans (a.p b h1 h2), hv, a.lo⟩, fun b hb => Nat.lt_of_lt_of_le (hn b hb) hg2.size⟩
  obtain ⟨xs, h1, h2⟩ := h.plan
  exact ⟨xs, h1.keep (fun b a1 a2 => hs b 5 (a.p b a1 a2) (by omega) (by omega) (by omega)) a.lo, h2⟩
end

end Go.Proofs.Ytlmdlhfdacmcnaa.NandRef
