/-
  The document's event, filled sector by sector: one copied slice of bytes more.
-/
import Derived.Test.YtlmdlhfdacmcnaaNandRefE
namespace Go.Proofs.Ytlmdlhfdacmcnaa.NandRef
open Go.RowKit Nand NandPkg
set_option maxRecDepth 4000

/-- append(own, x), x a slice, as one step of a region that draws its order. -/
theorem step_append_slice (w : World) {ops : Array Oper} {o : Oper} {a : Act} {K : Act → World → Prop} {Q : Exit → Act → World → Prop} {E : Prop} (hgd : o.guard = none) (s x : Operand) (t : TypeId)
    (ho : o.op = .call { callee := .builtin .append, args := #[s, x], argTypes := #[t, t] })
    (base : Nat) (e : TypeId) (ht : Try.prog.underlying t = some (.slice e)) (hi : sliceInfo Try.prog e) (v : Value) (vs : List Value) (hs : a.eval s = v) (hown : OwnV w base e v vs)
    (A : Option Addr) (n c : Nat) (hx : a.eval x = .slice (some ⟨w.heap.size, 0, none⟩) 1 1) (hlen : vs.length ≤ 1000000000000) (hbase : base ≤ w.heap.size)
    (h : ∀ v' w', OwnV w' base e v' (vs ++ [.slice A n c]) → (w.alloc (.cells #[.slice A n c] e)).grownBy w' v.ownBlock → (∀ b, v'.ownBlock = some b → v.ownBlock = some b ∨ w.heap.size ≤ b) → K (a.put o.dst v') w') :
    if Region.wanted o (yielded ops a.tmps) = true then Oper.wp Try.prog o a (w.alloc (.cells #[.slice A n c] e)) K Q else E := by
  rw [if_pos (by simp [Region.wanted, hgd])]
  obtain ⟨v', w', hrun, h2, h3, h4⟩ := run_append_slice (P := Try.prog) w base t o.type e ht hi v vs hown A n c hlen hbase
  unfold Oper.wp execOp
  simp only [ho, resolve, invoke, builtin, Sem.run_bind, Sem.run_pure, Result.andThen_ok, List.map_toArray, List.map_cons, List.map_nil, hs, hx, hrun]
  exact h v' w' h2 h3 h4

/-- One slice of bytes more, copied. -/
theorem grow1 {wr w3 w4 : World} {B : Nat} {v1 v2 v1' : Value} {vs1 : List Value} {l1 l2 : List (List UInt8)} {A : Option Addr} {n c : Nat} {xs : List UInt8}
    (h1 : OwnV wr B 47 v1 vs1) (h1l : vs1.length = l1.length) (h1i : ∀ (i : Nat) x xs, vs1[i]? = some x → l1[i]? = some xs → Own wr B 5 x xs) (h2 : Sect wr B v2 l2) (sep : ∀ b, v1.ownBlock = some b → v2.ownBlock ≠ some b)
    (b3 : Below wr.heap.size wr w3) (hx : Own w3 wr.heap.size 5 (.slice A n c) xs) (hB : B ≤ wr.heap.size) (g4 : w3.grownBy w4 v1.ownBlock) (o4 : OwnV w4 B 47 v1' (vs1 ++ [.slice A n c])) (loc : ∀ b, v1'.ownBlock = some b → v1.ownBlock = some b ∨ w3.heap.size ≤ b) :
    Sect w4 B v1' (l1 ++ [xs]) ∧ Sect w4 B v2 l2 ∧ ∀ b, v1'.ownBlock = some b → v2.ownBlock ≠ some b := by
  have hne : (5 : TypeId) ≠ 47 := by decide
  have h13 : OwnV w3 B 47 v1 vs1 := h1.below b3
  have st : ∀ x xs, Own w3 B 5 x xs → Own w4 B 5 x xs := fun x xs h => h.keep fun b hb => g4.block b (h.lt b hb) (fun e => by
    obtain ⟨cur, hc⟩ := h.elem b hb
    obtain ⟨cur', hc'⟩ := h13.elem b e.symm
    exact elem_ne hne hc hc' rfl)
  obtain ⟨vs2, k1, k2, k3⟩ := h2
  have k13 := k1.below b3
  refine ⟨Own2.snoc o4 h1l (fun i x ys ha hb => st x ys ((h1i i x ys ha hb).keep fun b hb2 => b3.block b ((h1i i x ys ha hb).lt b hb2))) (st _ _ (hx.le hB)), ⟨vs2, k13.keep fun b hb => g4.block b (k13.lt b hb) (fun e => sep b e.symm hb), k2, fun i x ys ha hb => st x ys ((k3 i x ys ha hb).keep fun b hb2 => b3.block b ((k3 i x ys ha hb).lt b hb2))⟩, fun b h1 h2 => ?_⟩
  rcases loc b h1 with h | h
  · exact sep b h h2
  · have := k13.lt b h2
    omega


end Go.Proofs.Ytlmdlhfdacmcnaa.NandRef
