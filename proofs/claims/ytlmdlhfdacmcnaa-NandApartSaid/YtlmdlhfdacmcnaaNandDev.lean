/-
  A device of package nand in memory: which blocks it lies in, what they hold, and what keeps it.
-/
import Derived.Test.YtlmdlhfdacmcnaaDict
import Derived.Test.YtlmdlhfdacmcnaaTurn
import Derived.Test.YtlmdlhfdacmcnaaNandMath
import Derived.Test.YtlmdlhfdacmcnaaGeomNum
import Derived.Deep.OwnRows
namespace Go.Proofs.Ytlmdlhfdacmcnaa
open Go.RowKit
set_option maxRecDepth 4000

namespace NandPkg
open Nand

/-- The blocks of a device: its own, its blocks', its map's, its plan's, its sectors'. -/
structure Pl where
  g : Nat
  gb : Nat
  gm : Nat
  lo : Nat
  gp : Nat
  D : Nat → Prop

def Pl.own (P : Pl) (b : Nat) : Prop := b = P.g ∨ b = P.gb ∨ b = P.gm ∨ (P.lo ≤ b ∧ b ≤ P.gp) ∨ P.D b

structure Pl.Apart (P : Pl) : Prop where
  g_b : P.g ≠ P.gb
  g_m : P.g ≠ P.gm
  b_m : P.gb ≠ P.gm
  lo : P.lo ≤ P.gp
  g_p : P.g < P.lo ∨ P.gp < P.g
  b_p : P.gb < P.lo ∨ P.gp < P.gb
  m_p : P.gm < P.lo ∨ P.gp < P.gm
  d_g : ¬ P.D P.g
  d_b : ¬ P.D P.gb
  d_m : ¬ P.D P.gm
  d_p : ∀ b, P.lo ≤ b → b ≤ P.gp → ¬ P.D b

section
variable (P : Pl)
theorem Pl.own_g : P.own P.g := Or.inl rfl
theorem Pl.own_b : P.own P.gb := Or.inr (Or.inl rfl)
theorem Pl.own_m : P.own P.gm := Or.inr (Or.inr (Or.inl rfl))
theorem Pl.own_p {b : Nat} (h : P.lo ≤ b ∧ b ≤ P.gp) : P.own b := Or.inr (Or.inr (Or.inr (Or.inl h)))
theorem Pl.own_d {b : Nat} (h : P.D b) : P.own b := Or.inr (Or.inr (Or.inr (Or.inr h)))
end

/-- What the cells of its blocks hold: three for each. -/
def bcell (st : St) (j : Nat) : Value := if j % 3 = 0 then .int .i64 (st.nx (j / 3)) else if j % 3 = 1 then .int .i64 (st.wr (j / 3)) else .bool (st.rt (j / 3))

theorem bcell_0 (st : St) (i : Nat) : bcell st (i * 3) = .int .i64 (st.nx i) := by
  unfold bcell
  rw [if_pos (by omega), show i * 3 / 3 = i by omega]
theorem bcell_1 (st : St) (i : Nat) : bcell st (i * 3 + 1) = .int .i64 (st.wr i) := by
  unfold bcell
  rw [if_neg (by omega), if_pos (by omega), show (i * 3 + 1) / 3 = i by omega]
theorem bcell_2 (st : St) (i : Nat) : bcell st (i * 3 + 2) = .bool (st.rt i) := by
  unfold bcell
  rw [if_neg (by omega), if_neg (by omega), show (i * 3 + 2) / 3 = i by omega]

theorem bcell_nx (st : St) (i : Nat) (v : Int) (j : Nat) : (if j = i * 3 then Value.int .i64 v else bcell st j) = bcell { st with nx := upd st.nx i v } j := by
  simp only [bcell, upd]
  by_cases e : j = i * 3
  · rw [if_pos e, if_pos (by omega), if_pos (by omega)]
  · rw [if_neg e]
    by_cases e0 : j % 3 = 0
    · rw [if_pos e0, if_pos e0, if_neg (by omega)]
    · rw [if_neg e0, if_neg e0]
theorem bcell_wr (st : St) (i : Nat) (v : Int) (j : Nat) : (if j = i * 3 + 1 then Value.int .i64 v else bcell st j) = bcell { st with wr := upd st.wr i v } j := by
  simp only [bcell, upd]
  by_cases e : j = i * 3 + 1
  · rw [if_pos e, if_neg (by omega), if_pos (by omega), if_pos (by omega)]
  · rw [if_neg e]
    by_cases e0 : j % 3 = 0
    · rw [if_pos e0, if_pos e0]
    · rw [if_neg e0, if_neg e0]
      by_cases e1 : j % 3 = 1
      · rw [if_pos e1, if_pos e1, if_neg (by omega)]
      · rw [if_neg e1, if_neg e1]
theorem bcell_rt (st : St) (i : Nat) (v : Bool) (j : Nat) : (if j = i * 3 + 2 then Value.bool v else bcell st j) = bcell { st with rt := upd st.rt i v } j := by
  simp only [bcell, upd]
  by_cases e : j = i * 3 + 2
  · rw [if_pos e, if_neg (by omega), if_neg (by omega), if_pos (by omega)]
  · rw [if_neg e]
    by_cases e0 : j % 3 = 0
    · rw [if_pos e0, if_pos e0]
    · rw [if_neg e0, if_neg e0]
      by_cases e1 : j % 3 = 1
      · rw [if_pos e1, if_pos e1]
      · rw [if_neg e1, if_neg e1, if_neg (by omega)]

/-- How many blocks. -/
def cnt (G : Shape) : Nat := (G.U * G.k).toNat

def headCells (G : Shape) (P : Pl) (off : Bool) (wrong : Int) : Array Value :=
  #[.bool off, .int .i64 G.c, .int .i64 G.l, .int .i64 G.k, .int .i64 G.p, .int .i64 G.s, .pointer (some ⟨P.gp, 0, none⟩), .slice (some ⟨P.gb, 0, none⟩) (cnt G) (cnt G), .map (some P.gm), .int .i64 wrong]

/-- What the map holds of the sectors. -/
def Sects (w : World) (D : Nat → Prop) (rd : Int → Option (List UInt8 × List UInt8)) (m : Int → Option Value) : Prop :=
  ∀ a, (rd a = none → m a = none) ∧ ∀ x y, rd a = some (x, y) → ∃ A n c A' n' c', m a = some (.agg #[.slice A n c, .slice A' n' c']) ∧ n ≤ 100 ∧ n' ≤ 100 ∧ Lie w D A n x ∧ Lie w D A' n' y

theorem Sects.keep {w w' : World} {D D' : Nat → Prop} {rd : Int → Option (List UInt8 × List UInt8)} {m : Int → Option Value} (h : Sects w D rd m) (hd : ∀ b, D b → D' b) (hk : ∀ b, D b → w'.heap[b]? = w.heap[b]?) : Sects w' D' rd m := fun a =>
  ⟨(h a).1, fun x y e => by
    obtain ⟨A, n, c, A', n', c', h1, h2, h3, h4, h5⟩ := (h a).2 x y e
    exact ⟨A, n, c, A', n', c', h1, h2, h3, h4.keep hd hk, h5.keep hd hk⟩⟩

/-- A device. -/
structure Dev (G : Shape) (w : World) (P : Pl) (st : St) : Prop where
  head : w.heap[P.g]? = some (.cells (headCells G P st.off st.wrong) 42 (0, 0))
  row : w.rowIs P.gb 77 (cnt G * 3) (bcell st)
  plan : PlanPkg.At w P.lo P.gp st.plan st.many
  dict : ∃ m, Dict w P.gm G.N.toNat m ∧ Sects w P.D st.rd m
  apart : P.Apart
  lt : ∀ b, P.own b → b < w.heap.size

section
variable {G : Shape} {w w' : World} {P : Pl} {st : St}

theorem Dev.keep (h : Dev G w P st) (hk : ∀ b, P.own b → w'.heap[b]? = w.heap[b]?) (hs : w.heap.size ≤ w'.heap.size) : Dev G w' P st where
  head := (hk _ P.own_g).trans h.head
  row := h.row.of_block (hk _ P.own_b)
  plan := h.plan.keep (fun b h1 h2 => hk b (P.own_p ⟨h1, h2⟩)) h.apart.lo
  dict := by
    obtain ⟨m, h1, h2⟩ := h.dict
    exact ⟨m, h1.keep (hk _ P.own_m), h2.keep (fun _ h => h) (fun b hb => hk b (P.own_d hb))⟩
  apart := h.apart
  lt := fun b hb => Nat.lt_of_lt_of_le (h.lt b hb) hs

theorem Dev.below (h : Dev G w P st) (hb : Below w.heap.size w w') : Dev G w' P st := h.keep (fun b ho => hb.block b (h.lt b ho)) hb.size

theorem Dev.turn (h : Dev G w P st) {O O' : Nat → Prop} (ht : Turn O O' w w') (hd : ∀ b, P.own b → ¬ O b) : Dev G w' P st := h.keep (ht.kept h.lt hd) ht.size

theorem Dev.drew (h : Dev G w P st) (n : Nat) : Dev G (w.drewN n) P st := h.keep (fun _ _ => rfl) (Nat.le_refl _)

theorem Dev.g_lt (h : Dev G w P st) : P.g < w.heap.size := h.lt _ P.own_g

/-- Its own cells. -/
theorem Dev.cells (h : Dev G w P st) : w.cell? ⟨P.g, 0, none⟩ = some (.bool st.off) ∧ w.cell? ⟨P.g, 1, none⟩ = some (.int .i64 G.c) ∧ w.cell? ⟨P.g, 2, none⟩ = some (.int .i64 G.l) ∧ w.cell? ⟨P.g, 3, none⟩ = some (.int .i64 G.k) ∧
    w.cell? ⟨P.g, 4, none⟩ = some (.int .i64 G.p) ∧ w.cell? ⟨P.g, 5, none⟩ = some (.int .i64 G.s) ∧ w.cell? ⟨P.g, 6, none⟩ = some (.pointer (some ⟨P.gp, 0, none⟩)) ∧ w.cell? ⟨P.g, 7, none⟩ = some (.slice (some ⟨P.gb, 0, none⟩) (cnt G) (cnt G)) ∧
    w.cell? ⟨P.g, 8, none⟩ = some (.map (some P.gm)) ∧ w.cell? ⟨P.g, 9, none⟩ = some (.int .i64 st.wrong) := by
  have h1 := h.head
  refine ⟨?_, ?_, ?_, ?_, ?_, ?_, ?_, ?_, ?_, ?_⟩ <;> simp [World.cell?, h1, headCells]

theorem Dev.free (h : Dev G w P st) (i : Nat) : w.frozen? ⟨P.g, i, none⟩ = false := by
  have h1 := h.head
  simp [World.frozen?, h1]

/-- One of its own cells anew. -/
theorem Dev.set_off (h : Dev G w P st) (x : Bool) : Dev G (w.setCell ⟨P.g, 0, none⟩ (.bool x)) P { st with off := x } := by
  have hg := grown_setCell w ⟨P.g, 0, none⟩ (.bool x)
  have h1 := h.head
  have hk : ∀ b, P.own b → b ≠ P.g → (w.setCell ⟨P.g, 0, none⟩ (.bool x)).heap[b]? = w.heap[b]? := fun b hb hn => hg.block b (h.lt b hb) (fun e => hn (by injection e))
  obtain ⟨m, hm1, hm2⟩ := h.dict
  exact ⟨by simp [World.setCell, Array.getElem?_modify, h1, headCells], h.row.of_block (hk _ P.own_b h.apart.g_b.symm), h.plan.keep (fun b a1 a2 => hk b (P.own_p ⟨a1, a2⟩) (by have := h.apart.g_p; omega)) h.apart.lo,
    ⟨m, hm1.keep (hk _ P.own_m h.apart.g_m.symm), hm2.keep (fun _ h => h) (fun b hb => hk b (P.own_d hb) (fun e => h.apart.d_g (e ▸ hb)))⟩, h.apart, fun b hb => Nat.lt_of_lt_of_le (h.lt b hb) hg.size⟩

theorem Dev.set_wrong (h : Dev G w P st) (x : Int) : Dev G (w.setCell ⟨P.g, 9, none⟩ (.int .i64 x)) P { st with wrong := x } := by
  have hg := grown_setCell w ⟨P.g, 9, none⟩ (.int .i64 x)
  have h1 := h.head
  have hk : ∀ b, P.own b → b ≠ P.g → (w.setCell ⟨P.g, 9, none⟩ (.int .i64 x)).heap[b]? = w.heap[b]? := fun b hb hn => hg.block b (h.lt b hb) (fun e => hn (by injection e))
  obtain ⟨m, hm1, hm2⟩ := h.dict
  exact ⟨by simp [World.setCell, Array.getElem?_modify, h1, headCells], h.row.of_block (hk _ P.own_b h.apart.g_b.symm), h.plan.keep (fun b a1 a2 => hk b (P.own_p ⟨a1, a2⟩) (by have := h.apart.g_p; omega)) h.apart.lo,
    ⟨m, hm1.keep (hk _ P.own_m h.apart.g_m.symm), hm2.keep (fun _ h => h) (fun b hb => hk b (P.own_d hb) (fun e => h.apart.d_g (e ▸ hb)))⟩, h.apart, fun b hb => Nat.lt_of_lt_of_le (h.lt b hb) hg.size⟩

/-- Another plan, which lies in new blocks. -/
theorem Dev.set_plan (h : Dev G w P st) {lo gp : Nat} {xs : List UInt8} {k : Int} (hp : PlanPkg.At w lo gp xs k) (hl : lo ≤ gp) (hn : ∀ b, lo ≤ b → b ≤ gp → ¬ P.own b) :
    Dev G (w.setCell ⟨P.g, 6, none⟩ (.pointer (some ⟨gp, 0, none⟩))) { P with lo := lo, gp := gp } { st with plan := xs, many := k } := by
  have hg := grown_setCell w ⟨P.g, 6, none⟩ (.pointer (some ⟨gp, 0, none⟩))
  have h1 := h.head
  have hk : ∀ b, b < w.heap.size → b ≠ P.g → (w.setCell ⟨P.g, 6, none⟩ (.pointer (some ⟨gp, 0, none⟩))).heap[b]? = w.heap[b]? := fun b hb hn => hg.block b hb (fun e => hn (by injection e))
  obtain ⟨m, hm1, hm2⟩ := h.dict
  have ng : ¬ (lo ≤ P.g ∧ P.g ≤ gp) := fun h => hn P.g h.1 h.2 P.own_g
  have nb : ¬ (lo ≤ P.gb ∧ P.gb ≤ gp) := fun h => hn P.gb h.1 h.2 P.own_b
  have nm : ¬ (lo ≤ P.gm ∧ P.gm ≤ gp) := fun h => hn P.gm h.1 h.2 P.own_m
  refine ⟨by simp [World.setCell, Array.getElem?_modify, h1, headCells], h.row.of_block (hk _ (h.lt _ P.own_b) h.apart.g_b.symm), hp.keep (fun b a1 a2 => hk b (Nat.lt_of_le_of_lt a2 hp.lt) (fun e => hn b a1 a2 (e ▸ P.own_g))) hl,
    ⟨m, hm1.keep (hk _ (h.lt _ P.own_m) h.apart.g_m.symm), hm2.keep (fun _ h => h) (fun b hb => hk b (h.lt _ (P.own_d hb)) (fun e => h.apart.d_g (e ▸ hb)))⟩,
    ⟨h.apart.g_b, h.apart.g_m, h.apart.b_m, hl, ?_, ?_, ?_, h.apart.d_g, h.apart.d_b, h.apart.d_m, fun b h1 h2 hd => hn b h1 h2 (P.own_d hd)⟩, fun b hb => ?_⟩
  · show P.g < lo ∨ gp < P.g
    omega
  · show P.gb < lo ∨ gp < P.gb
    omega
  · show P.gm < lo ∨ gp < P.gm
    omega
  · refine Nat.lt_of_lt_of_le ?_ hg.size
    rcases hb with hb | hb | hb | hb | hb
    · exact h.lt b (Or.inl hb)
    · exact h.lt b (Or.inr (Or.inl hb))
    · exact h.lt b (Or.inr (Or.inr (Or.inl hb)))
    · exact Nat.lt_of_le_of_lt hb.2 hp.lt
    · exact h.lt b (P.own_d hb)

/-- The plan's next. -/
theorem Dev.set_next (h : Dev G w P st) (hg : w.grownBy w' (some P.gp)) {xs : List UInt8} {k : Int} (hp : PlanPkg.At w' P.lo P.gp xs k) : Dev G w' P { st with plan := xs, many := k } := by
  have hk : ∀ b, P.own b → b ≠ P.gp → w'.heap[b]? = w.heap[b]? := fun b hb hn => hg.block b (h.lt b hb) (fun e => hn (by injection e))
  obtain ⟨m, hm1, hm2⟩ := h.dict
  have a := h.apart
  exact ⟨(hk _ P.own_g (by have := a.g_p; have := a.lo; omega)).trans h.head, h.row.of_block (hk _ P.own_b (by have := a.b_p; have := a.lo; omega)), hp,
    ⟨m, hm1.keep (hk _ P.own_m (by have := a.m_p; have := a.lo; omega)), hm2.keep (fun _ h => h) (fun b hb => hk b (P.own_d hb) (fun e => a.d_p _ a.lo (Nat.le_refl _) (e ▸ hb)))⟩, a, fun b hb => Nat.lt_of_lt_of_le (h.lt b hb) hg.size⟩

/-- A cell of its blocks. -/
theorem Dev.set_row (h : Dev G w P st) (j : Nat) (v : Value) {st' : St} (he : ∀ i, i < cnt G * 3 → (if i = j then v else bcell st i) = bcell st' i) (h1 : st'.off = st.off) (h2 : st'.wrong = st.wrong) (h3 : st'.plan = st.plan) (h4 : st'.many = st.many) (h5 : st'.rd = st.rd) :
    Dev G (w.setCell ⟨P.gb, j, none⟩ v) P st' := by
  have hg := grown_setCell w ⟨P.gb, j, none⟩ v
  have hk : ∀ b, P.own b → b ≠ P.gb → (w.setCell ⟨P.gb, j, none⟩ v).heap[b]? = w.heap[b]? := fun b hb hn => hg.block b (h.lt b hb) (fun e => hn (by injection e))
  obtain ⟨m, hm1, hm2⟩ := h.dict
  have a := h.apart
  refine ⟨by rw [h1, h2]; exact (hk _ P.own_g a.g_b).trans h.head, (h.row.set j v).congr he, by rw [h3, h4]; exact h.plan.keep (fun b a1 a2 => hk b (P.own_p ⟨a1, a2⟩) (by have := a.b_p; omega)) a.lo,
    ⟨m, hm1.keep (hk _ P.own_m a.b_m.symm), by rw [h5]; exact hm2.keep (fun _ h => h) (fun b hb => hk b (P.own_d hb) (fun e => a.d_b (e ▸ hb)))⟩, a, fun b hb => Nat.lt_of_lt_of_le (h.lt b hb) hg.size⟩

/-- The map anew; its sectors in more blocks. -/
theorem Dev.set_dict (h : Dev G w P st) (hg : w.grownBy w' (some P.gm)) {D' : Nat → Prop} (hn : ∀ b, D' b → P.D b ∨ (¬ P.own b ∧ b < w.heap.size)) {rd : Int → Option (List UInt8 × List UInt8)} {m : Int → Option Value} (hm : Dict w' P.gm G.N.toNat m) (hs : Sects w D' rd m) :
    Dev G w' { P with D := D' } { st with rd := rd } := by
  have hk : ∀ b, P.own b → b ≠ P.gm → w'.heap[b]? = w.heap[b]? := fun b hb hn => hg.block b (h.lt b hb) (fun e => hn (by injection e))
  have a := h.apart
  have nd : ∀ b, P.own b → ¬ P.D b → ¬ D' b := fun b h1 h2 h3 => (hn b h3).elim h2 (fun h4 => h4.1 h1)
  have hlt : ∀ b, D' b → b < w.heap.size := fun b hb => (hn b hb).elim (fun h1 => h.lt b (P.own_d h1)) (fun h1 => h1.2)
  refine ⟨(hk _ P.own_g a.g_m).trans h.head, h.row.of_block (hk _ P.own_b a.b_m), h.plan.keep (fun b a1 a2 => hk b (P.own_p ⟨a1, a2⟩) (by have := a.m_p; omega)) a.lo,
    ⟨m, hm, hs.keep (fun _ h => h) (fun b hb => hg.block b (hlt b hb) (fun e => nd _ P.own_m a.d_m (by injection e with e; exact e ▸ hb)))⟩,
    ⟨a.g_b, a.g_m, a.b_m, a.lo, a.g_p, a.b_p, a.m_p, nd _ P.own_g a.d_g, nd _ P.own_b a.d_b, nd _ P.own_m a.d_m, fun b h1 h2 => nd b (P.own_p ⟨h1, h2⟩) (a.d_p b h1 h2)⟩, fun b hb => ?_⟩
  refine Nat.lt_of_lt_of_le ?_ hg.size
  rcases hb with hb | hb | hb | hb | hb
  · exact h.lt b (Or.inl hb)
  · exact h.lt b (Or.inr (Or.inl hb))
  · exact h.lt b (Or.inr (Or.inr (Or.inl hb)))
  · exact h.lt b (P.own_p hb)
  · exact hlt b hb
end

end NandPkg
end Go.Proofs.Ytlmdlhfdacmcnaa
