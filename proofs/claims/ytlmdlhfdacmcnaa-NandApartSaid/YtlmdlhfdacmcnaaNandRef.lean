/-
  The document's device in memory: which blocks it lies in, what they hold, and what keeps it.
-/
import Derived.Test.YtlmdlhfdacmcnaaNandKit
import Derived.Test.YtlmdlhfdacmcnaaNandLog
import Derived.Test.YtlmdlhfdacmcnaaPlanRef
import Derived.Test.YtlmdlhfdacmcnaaGeomRefOf
import Derived.Test.YtlmdlhfdacmcnaaInts
namespace Go.Proofs.Ytlmdlhfdacmcnaa.NandRef
open Go.RowKit Nand NandPkg
set_option maxRecDepth 4000

/-- The blocks of the document's device: a kind for each: 1 its own, 2 next, 3 wear, 4 retired, 5 the plan's, 6 the log's, 7 what the log leads to; 0: none of its. -/
structure Pl where
  g : Nat
  gn : Nat
  gw : Nat
  gr : Nat
  lo : Nat
  gp : Nat
  lv : Value
  J : Nat
  K : Nat → Nat

def Pl.own (P : Pl) (b : Nat) : Prop := P.K b ≠ 0

structure Pl.Apart (P : Pl) : Prop where
  g : P.K P.g = 1
  n : P.K P.gn = 2
  w : P.K P.gw = 3
  r : P.K P.gr = 4
  p : ∀ b, P.lo ≤ b → b ≤ P.gp → P.K b = 5
  l : ∀ b, P.lv.ownBlock = some b → P.K b = 6
  lo : P.lo ≤ P.gp

def headCells (G : Shape) (P : Pl) (off : Bool) (wrong : Int) : Array Value :=
  #[.int .i64 G.c, .int .i64 G.l, .int .i64 G.k, .int .i64 G.p, .int .i64 G.s, .pointer (some ⟨P.gp, 0, none⟩), P.lv, .slice (some ⟨P.gn, 0, none⟩) (cnt G) (cnt G), .slice (some ⟨P.gw, 0, none⟩) (cnt G) (cnt G), .slice (some ⟨P.gr, 0, none⟩) (cnt G) (cnt G), .bool off, .int .i64 wrong]

/-- An event in five cells. -/
def EvAt (w : World) (D : Nat → Prop) (cs : List Value) (i : Nat) (e : Ev) : Prop :=
  ∃ A n c A' n' c', cs[i * 5]? = some (.int .i64 e.u) ∧ cs[i * 5 + 1]? = some (.int .i64 e.b) ∧ cs[i * 5 + 2]? = some (.int .i64 e.g) ∧ cs[i * 5 + 3]? = some (.slice A n c) ∧ cs[i * 5 + 4]? = some (.slice A' n' c') ∧ n ≤ 100 ∧ n' ≤ 100 ∧ Lies w D A n e.dat ∧ Lies w D A' n' e.oob ∧ n ≤ n'

theorem EvAt.keep {w w' : World} {D D' : Nat → Prop} {cs cs' : List Value} {i : Nat} {e : Ev} (h : EvAt w D cs i e) (hd : ∀ b, D b → D' b) (hk : ∀ b, D b → w'.heap[b]? = w.heap[b]?) (hc : ∀ (j : Nat) v, cs[j]? = some v → cs'[j]? = some v) : EvAt w' D' cs' i e := by
  obtain ⟨A, n, c, A', n', c', h0, h1, h2, h3, h4, h5, h6, h7, h8, h9⟩ := h
  exact ⟨A, n, c, A', n', c', hc _ _ h0, hc _ _ h1, hc _ _ h2, hc _ _ h3, hc _ _ h4, h5, h6, h7.keep hd hk, h8.keep hd hk, h9⟩

/-- The log. -/
def Log (w : World) (D : Nat → Prop) (v : Value) (evs : List Ev) : Prop :=
  ∃ cs, w.ownsRow 0 104 5 v evs.length cs ∧ ∀ (i : Nat) e, evs[i]? = some e → EvAt w D cs i e

theorem Log.keep {w w' : World} {D D' : Nat → Prop} {v : Value} {evs : List Ev} (h : Log w D v evs) (hv : ∀ b, v.ownBlock = some b → w'.heap[b]? = w.heap[b]?) (hd : ∀ b, D b → D' b) (hk : ∀ b, D b → w'.heap[b]? = w.heap[b]?) : Log w' D' v evs := by
  obtain ⟨cs, h1, h2⟩ := h
  refine ⟨cs, ⟨h1.1, ?_⟩, fun i e he => (h2 i e he).keep hd hk (fun _ _ h => h)⟩
  rcases h1.2 with h0 | ⟨g, cap, cur, rfl, hg, hh, r⟩
  · exact .inl h0
  · exact .inr ⟨g, cap, cur, rfl, hg, (hv g rfl).trans hh, r⟩

structure Ref (G : Shape) (w : World) (P : Pl) (st : St) : Prop where
  head : w.heap[P.g]? = some (.cells (headCells G P st.off st.wrong) 54 (0, 0))
  rn : w.rowIs P.gn 3 (cnt G) (fun i => .int .i64 (st.nx i))
  rw : w.rowIs P.gw 3 (cnt G) (fun i => .int .i64 (st.wr i))
  rr : w.rowIs P.gr 4 (cnt G) (fun i => .bool (st.rt i))
  plan : ∃ xs, PlanPkg.RefAt w P.lo P.gp xs st.many ∧ 0 ≤ st.many ∧ xs.drop st.many.toNat = st.plan
  log : ∃ evs, Log w (fun b => P.K b = 7) P.lv evs ∧ Tells G evs st.rd ∧ evs.length ≤ P.J
  apart : P.Apart
  lt : ∀ b, P.own b → b < w.heap.size

section
variable {G : Shape} {w w' : World} {P : Pl} {st : St}

theorem own_of (P : Pl) {b k : Nat} (h : P.K b = k) (hk : k ≠ 0) : P.own b := by unfold Pl.own; omega

/-- It stays where its blocks have not turned. -/
theorem Ref.keep (h : Ref G w P st) (hk : ∀ b, P.own b → w'.heap[b]? = w.heap[b]?) (hs : w.heap.size ≤ w'.heap.size) : Ref G w' P st where
  head := (hk _ (own_of P h.apart.g (by omega))).trans h.head
  rn := h.rn.of_block (hk _ (own_of P h.apart.n (by omega)))
  rw := h.rw.of_block (hk _ (own_of P h.apart.w (by omega)))
  rr := h.rr.of_block (hk _ (own_of P h.apart.r (by omega)))
  plan := by
    obtain ⟨xs, h1, h2⟩ := h.plan
    exact ⟨xs, h1.keep (fun b a1 a2 => hk b (own_of P (h.apart.p b a1 a2) (by omega))) h.apart.lo, h2⟩
  log := by
    obtain ⟨evs, h1, h2⟩ := h.log
    exact ⟨evs, h1.keep (fun b hb => hk b (own_of P (h.apart.l b hb) (by omega))) (fun _ h => h) (fun b hb => hk b (own_of P hb (by omega))), h2⟩
  apart := h.apart
  lt := fun b hb => Nat.lt_of_lt_of_le (h.lt b hb) hs

theorem Ref.below (h : Ref G w P st) (hb : Below w.heap.size w w') : Ref G w' P st := h.keep (fun b ho => hb.block b (h.lt b ho)) hb.size

theorem Ref.turn (h : Ref G w P st) {O O' : Nat → Prop} (ht : Turn O O' w w') (hd : ∀ b, P.own b → ¬ O b) : Ref G w' P st := h.keep (ht.kept h.lt hd) ht.size

theorem Ref.cells (h : Ref G w P st) : (w.cell? ⟨P.g, 0, none⟩ = some (.int .i64 G.c) ∧ w.cell? ⟨P.g, 1, none⟩ = some (.int .i64 G.l) ∧ w.cell? ⟨P.g, 2, none⟩ = some (.int .i64 G.k) ∧ w.cell? ⟨P.g, 3, none⟩ = some (.int .i64 G.p) ∧ w.cell? ⟨P.g, 4, none⟩ = some (.int .i64 G.s)) ∧
    w.cell? ⟨P.g, 5, none⟩ = some (.pointer (some ⟨P.gp, 0, none⟩)) ∧ w.cell? ⟨P.g, 6, none⟩ = some P.lv ∧ w.cell? ⟨P.g, 7, none⟩ = some (.slice (some ⟨P.gn, 0, none⟩) (cnt G) (cnt G)) ∧ w.cell? ⟨P.g, 8, none⟩ = some (.slice (some ⟨P.gw, 0, none⟩) (cnt G) (cnt G)) ∧
    w.cell? ⟨P.g, 9, none⟩ = some (.slice (some ⟨P.gr, 0, none⟩) (cnt G) (cnt G)) ∧ w.cell? ⟨P.g, 10, none⟩ = some (.bool st.off) ∧ w.cell? ⟨P.g, 11, none⟩ = some (.int .i64 st.wrong) := by
  have h1 := h.head
  refine ⟨⟨?_, ?_, ?_, ?_, ?_⟩, ?_, ?_, ?_, ?_, ?_, ?_, ?_⟩ <;> simp [World.cell?, h1, headCells]

theorem Ref.free (h : Ref G w P st) (i : Nat) : w.frozen? ⟨P.g, i, none⟩ = false := by
  have h1 := h.head
  simp [World.frozen?, h1]

/-- One block of a kind has turned: what is of other kinds stays. -/
theorem Ref.other (h : Ref G w P st) {r k : Nat} (hr : P.K r = k) (hg : w.grownBy w' (some r)) {b j : Nat} (hb : P.K b = j) (hj : j ≠ 0) (hne : j ≠ k) : w'.heap[b]? = w.heap[b]? :=
  hg.block b (h.lt b (own_of P hb hj)) (fun e => by injection e with e; rw [e, hr] at hb; exact hne hb.symm)

/-- Its own block anew. -/
theorem Ref.set_head (h : Ref G w P st) (hg : w.grownBy w' (some P.g)) {off : Bool} {wrong : Int} (hh : w'.heap[P.g]? = some (.cells (headCells G P off wrong) 54 (0, 0))) : Ref G w' P { st with off := off, wrong := wrong } where
  head := hh
  rn := h.rn.of_block (h.other h.apart.g hg h.apart.n (by omega) (by omega))
  rw := h.rw.of_block (h.other h.apart.g hg h.apart.w (by omega) (by omega))
  rr := h.rr.of_block (h.other h.apart.g hg h.apart.r (by omega) (by omega))
  plan := by
    obtain ⟨xs, h1, h2⟩ := h.plan
    exact ⟨xs, h1.keep (fun b a1 a2 => h.other h.apart.g hg (h.apart.p b a1 a2) (by omega) (by omega)) h.apart.lo, h2⟩
  log := by
    obtain ⟨evs, h1, h2⟩ := h.log
    exact ⟨evs, h1.keep (fun b hb => h.other h.apart.g hg (h.apart.l b hb) (by omega) (by omega)) (fun _ h => h) (fun b hb => h.other h.apart.g hg hb (by omega) (by omega)), h2⟩
  apart := h.apart
  lt := fun b hb => Nat.lt_of_lt_of_le (h.lt b hb) hg.size

theorem Ref.set_off (h : Ref G w P st) (x : Bool) : Ref G (w.setCell ⟨P.g, 10, none⟩ (.bool x)) P { st with off := x } := by
  have h1 := h.head
  exact h.set_head (grown_setCell _ _ _) (by simp [World.setCell, Array.getElem?_modify, h1, headCells])
theorem Ref.set_wrong (h : Ref G w P st) (x : Int) : Ref G (w.setCell ⟨P.g, 11, none⟩ (.int .i64 x)) P { st with wrong := x } := by
  have h1 := h.head
  exact h.set_head (grown_setCell _ _ _) (by simp [World.setCell, Array.getElem?_modify, h1, headCells])

/-- A cell of next. -/
theorem Ref.set_nx (h : Ref G w P st) (i : Nat) (x : Int) : Ref G (w.setCell ⟨P.gn, i, none⟩ (.int .i64 x)) P { st with nx := upd st.nx i x } := by
  have hg := grown_setCell w ⟨P.gn, i, none⟩ (.int .i64 x)
  refine ⟨(h.other h.apart.n hg h.apart.g (by omega) (by omega)).trans h.head, (h.rn.set i (.int .i64 x)).congr fun j _ => ?_, h.rw.of_block (h.other h.apart.n hg h.apart.w (by omega) (by omega)), h.rr.of_block (h.other h.apart.n hg h.apart.r (by omega) (by omega)), ?_, ?_, h.apart, fun b hb => Nat.lt_of_lt_of_le (h.lt b hb) hg.size⟩
  · show _ = Value.int .i64 (upd st.nx i x j)
    unfold upd
    split <;> rfl
  · obtain ⟨xs, h1, h2⟩ := h.plan
    exact ⟨xs, h1.keep (fun b a1 a2 => h.other h.apart.n hg (h.apart.p b a1 a2) (by omega) (by omega)) h.apart.lo, h2⟩
  · obtain ⟨evs, h1, h2⟩ := h.log
    exact ⟨evs, h1.keep (fun b hb => h.other h.apart.n hg (h.apart.l b hb) (by omega) (by omega)) (fun _ h => h) (fun b hb => h.other h.apart.n hg hb (by omega) (by omega)), h2⟩
theorem Ref.set_wr (h : Ref G w P st) (i : Nat) (x : Int) : Ref G (w.setCell ⟨P.gw, i, none⟩ (.int .i64 x)) P { st with wr := upd st.wr i x } := by
  have hg := grown_setCell w ⟨P.gw, i, none⟩ (.int .i64 x)
  refine ⟨(h.other h.apart.w hg h.apart.g (by omega) (by omega)).trans h.head, h.rn.of_block (h.other h.apart.w hg h.apart.n (by omega) (by omega)), (h.rw.set i (.int .i64 x)).congr fun j _ => ?_, h.rr.of_block (h.other h.apart.w hg h.apart.r (by omega) (by omega)), ?_, ?_, h.apart, fun b hb => Nat.lt_of_lt_of_le (h.lt b hb) hg.size⟩
  · show _ = Value.int .i64 (upd st.wr i x j)
    unfold upd
    split <;> rfl
  · obtain ⟨xs, h1, h2⟩ := h.plan
    exact ⟨xs, h1.keep (fun b a1 a2 => h.other h.apart.w hg (h.apart.p b a1 a2) (by omega) (by omega)) h.apart.lo, h2⟩
  · obtain ⟨evs, h1, h2⟩ := h.log
    exact ⟨evs, h1.keep (fun b hb => h.other h.apart.w hg (h.apart.l b hb) (by omega) (by omega)) (fun _ h => h) (fun b hb => h.other h.apart.w hg hb (by omega) (by omega)), h2⟩
theorem Ref.set_rt (h : Ref G w P st) (i : Nat) (x : Bool) : Ref G (w.setCell ⟨P.gr, i, none⟩ (.bool x)) P { st with rt := upd st.rt i x } := by
  have hg := grown_setCell w ⟨P.gr, i, none⟩ (.bool x)
  refine ⟨(h.other h.apart.r hg h.apart.g (by omega) (by omega)).trans h.head, h.rn.of_block (h.other h.apart.r hg h.apart.n (by omega) (by omega)), h.rw.of_block (h.other h.apart.r hg h.apart.w (by omega) (by omega)), (h.rr.set i (.bool x)).congr fun j _ => ?_, ?_, ?_, h.apart, fun b hb => Nat.lt_of_lt_of_le (h.lt b hb) hg.size⟩
  · show _ = Value.bool (upd st.rt i x j)
    unfold upd
    split <;> rfl
  · obtain ⟨xs, h1, h2⟩ := h.plan
    exact ⟨xs, h1.keep (fun b a1 a2 => h.other h.apart.r hg (h.apart.p b a1 a2) (by omega) (by omega)) h.apart.lo, h2⟩
  · obtain ⟨evs, h1, h2⟩ := h.log
    exact ⟨evs, h1.keep (fun b hb => h.other h.apart.r hg (h.apart.l b hb) (by omega) (by omega)) (fun _ h => h) (fun b hb => h.other h.apart.r hg hb (by omega) (by omega)), h2⟩

/-- The plan's next. -/
theorem Ref.set_next (h : Ref G w P st) (hg : w.grownBy w' (some P.gp)) {xs plan : List UInt8} {k : Int} (hp : PlanPkg.RefAt w' P.lo P.gp xs k) (hk : 0 ≤ k) (hx : xs.drop k.toNat = plan) : Ref G w' P { st with plan := plan, many := k } := by
  have h5 : P.K P.gp = 5 := h.apart.p _ h.apart.lo (Nat.le_refl _)
  refine ⟨(h.other h5 hg h.apart.g (by omega) (by omega)).trans h.head, h.rn.of_block (h.other h5 hg h.apart.n (by omega) (by omega)), h.rw.of_block (h.other h5 hg h.apart.w (by omega) (by omega)), h.rr.of_block (h.other h5 hg h.apart.r (by omega) (by omega)), ⟨xs, hp, hk, hx⟩, ?_, h.apart, fun b hb => Nat.lt_of_lt_of_le (h.lt b hb) hg.size⟩
  obtain ⟨evs, h1, h2⟩ := h.log
  exact ⟨evs, h1.keep (fun b hb => h.other h5 hg (h.apart.l b hb) (by omega) (by omega)) (fun _ h => h) (fun b hb => h.other h5 hg hb (by omega) (by omega)), h2⟩
end

end Go.Proofs.Ytlmdlhfdacmcnaa.NandRef
