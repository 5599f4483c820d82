/-
  Lines in memory, the program's and the document's: a head, and a row of cells a line. Nothing of the program's code is named here.
-/
import Derived.Test.YtnnonkmkdjhacaaTurn
import Derived.Test.YtnnonkmkdjhacaaLinesMath
namespace Go.Proofs.Ytnnonkmkdjhacaa.LinesPkg
open Go.RowKit Lines
open Nand (Shape upd upd_same upd_other)
set_option maxRecDepth 4000

abbrev ptr (g o : Nat) : Value := .pointer (some ⟨g, o, none⟩)

/-- Rows of sz cells in block L. -/
structure Tab (w : World) (L n sz : Nat) (row : Nat → List Value) : Prop where
  cell : ∀ i j v, i < n → (row i)[j]? = some v → w.cell? ⟨L, i * sz + j, none⟩ = some v ∧ w.frozen? ⟨L, i * sz + j, none⟩ = false
  len : ∀ i, i < n → (row i).length = sz

section
variable {w w' : World} {L n sz : Nat} {row : Nat → List Value}

theorem Tab.keep (h : Tab w L n sz row) (hk : w'.heap[L]? = w.heap[L]?) : Tab w' L n sz row :=
  ⟨fun i j v hi hv => by rw [World.cell?_of_block (w := w) hk, show w'.frozen? ⟨L, i * sz + j, none⟩ = w.frozen? ⟨L, i * sz + j, none⟩ by simp [World.frozen?, hk]]; exact h.cell i j v hi hv, h.len⟩

theorem Tab.set (h : Tab w L n sz row) {i j : Nat} (hi : i < n) (hj : j < sz) (v : Value) : Tab (w.setCell ⟨L, i * sz + j, none⟩ v) L n sz (fun k => if k = i then (row i).set j v else row k) := by
  refine ⟨fun k m u hk hu => ?_, fun k hk => ?_⟩
  · rw [World.frozen?_setCell]
    have hm : m < sz := by
      have h1 := (List.getElem?_eq_some_iff.1 hu).1
      have h2 : (if k = i then (row i).set j v else row k).length = sz := by
        split
        · rw [List.length_set]; exact h.len i hi
        · exact h.len k hk
      have h1 : m < (if k = i then (row i).set j v else row k).length := h1
      omega
    by_cases hki : k = i
    · subst hki
      have hu2 : ((row k).set j v)[m]? = some u := by simpa using hu
      by_cases hmj : m = j
      · subst hmj
        have hl : m < (row k).length := by rw [h.len k hk]; exact hm
        rw [List.getElem?_set_self hl] at hu2
        injection hu2 with hu2
        subst hu2
        have h0 := h.cell k m _ hk (List.getElem?_eq_getElem hl)
        exact ⟨World.cell?_setCell_same _ _ _ h0.1, h0.2⟩
      · rw [List.getElem?_set_ne (fun e => hmj e.symm)] at hu2
        have h0 := h.cell k m u hk hu2
        exact ⟨(World.cell?_setCell_other w _ _ v (fun e => by injection e with _ e; omega)).trans h0.1, h0.2⟩
    · have hu2 : (row k)[m]? = some u := by simpa [hki] using hu
      have h0 := h.cell k m u hk hu2
      refine ⟨(World.cell?_setCell_other w _ _ v (fun e => ?_)).trans h0.1, h0.2⟩
      injection e with _ e
      rcases Nat.lt_or_gt_of_ne hki with h7 | h7
      · have : (k + 1) * sz ≤ i * sz := Nat.mul_le_mul_right _ h7
        rw [Nat.add_mul] at this
        omega
      · have : (i + 1) * sz ≤ k * sz := Nat.mul_le_mul_right _ h7
        rw [Nat.add_mul] at this
        omega
  · show (if k = i then _ else _ : List Value).length = sz
    split
    · rw [List.length_set]; exact h.len i hi
    · exact h.len k hk

theorem Tab.congr {row' : Nat → List Value} (h : Tab w L n sz row) (he : ∀ i, i < n → row' i = row i) : Tab w L n sz row' :=
  ⟨fun i j v hi hv => h.cell i j v hi (by rw [← he i hi]; exact hv), fun i hi => by rw [he i hi]; exact h.len i hi⟩
end

/-- A line's cells; behind them what is always there. -/
def lnL (ex : List Value) (x : Ln) : List Value := [.int .i64 x.st, .int .i64 x.wr, .int .i64 x.gd] ++ ex

/-- Where lines lie: the head's block, the rows' block and its capacity. -/
structure Pl where
  g : Nat
  L : Nat
  c : Nat

def Pl.own (P : Pl) (b : Nat) : Prop := b = P.g ∨ b = P.L

def headC (G : Shape) (n : Nat) (P : Pl) : Array Value := #[.int .i64 G.c, .int .i64 G.l, .int .i64 G.k, .int .i64 G.p, .int .i64 G.s, .slice (some ⟨P.L, 0, none⟩) n P.c]

/-- Block P.g holds lines over the geometry G, n of them, that are as f says. -/
structure Ls (T : TypeId) (sz : Nat) (ex : List Value) (G : Shape) (n : Nat) (w : World) (P : Pl) (f : St) : Prop where
  head : w.heap[P.g]? = some (.cells (headC G n P) T (0, 0))
  tab : Tab w P.L n sz (fun i => lnL ex (f i))
  ne : P.g ≠ P.L
  inv : Inv f n G.U
  n0 : 0 < n
  nk : (n : Int) = G.k
  ok : G.Ok
  nc : n ≤ P.c
  cm : P.c ≤ maxLen

section
variable {T : TypeId} {sz : Nat} {ex : List Value} {G : Shape} {n : Nat} {w w' : World} {P : Pl} {f : St}

theorem Ls.n1 (h : Ls T sz ex G n w P f) : n ≤ 64 := by
  have := h.ok.may
  unfold Geom.ok at this
  have := h.nk
  omega

theorem Ls.at (h : Ls T sz ex G n w P f) {i : Nat} (hi : i < n) : w.cell? ⟨P.L, i * sz, none⟩ = some (.int .i64 (f i).st) ∧ w.cell? ⟨P.L, i * sz + 1, none⟩ = some (.int .i64 (f i).wr) ∧ w.cell? ⟨P.L, i * sz + 2, none⟩ = some (.int .i64 (f i).gd) ∧
    w.frozen? ⟨P.L, i * sz, none⟩ = false ∧ w.frozen? ⟨P.L, i * sz + 1, none⟩ = false ∧ w.frozen? ⟨P.L, i * sz + 2, none⟩ = false :=
  ⟨(h.tab.cell i 0 _ hi rfl).1, (h.tab.cell i 1 _ hi rfl).1, (h.tab.cell i 2 _ hi rfl).1, (h.tab.cell i 0 _ hi rfl).2, (h.tab.cell i 1 _ hi rfl).2, (h.tab.cell i 2 _ hi rfl).2⟩

theorem Ls.ltL (h : Ls T sz ex G n w P f) : P.L < w.heap.size := World.block_lt_of_cell? _ _ (h.at h.n0).1

theorem Ls.ltg (h : Ls T sz ex G n w P f) : P.g < w.heap.size := (Array.getElem?_eq_some_iff.1 h.head).1

theorem Ls.lt (h : Ls T sz ex G n w P f) : ∀ b, P.own b → b < w.heap.size := by
  rintro b (rfl | rfl)
  · exact h.ltg
  · exact h.ltL

theorem Ls.keep (h : Ls T sz ex G n w P f) (hk : ∀ b, P.own b → w'.heap[b]? = w.heap[b]?) : Ls T sz ex G n w' P f :=
  ⟨(hk _ (.inl rfl)).trans h.head, h.tab.keep (hk _ (.inr rfl)), h.ne, h.inv, h.n0, h.nk, h.ok, h.nc, h.cm⟩

theorem Ls.below (h : Ls T sz ex G n w P f) (hb : Below w.heap.size w w') : Ls T sz ex G n w' P f := h.keep fun b ho => hb.block b (h.lt b ho)

theorem Ls.cells (h : Ls T sz ex G n w P f) : w.cell? ⟨P.g, 0, none⟩ = some (.int .i64 G.c) ∧ w.cell? ⟨P.g, 1, none⟩ = some (.int .i64 G.l) ∧ w.cell? ⟨P.g, 2, none⟩ = some (.int .i64 G.k) ∧ w.cell? ⟨P.g, 3, none⟩ = some (.int .i64 G.p) ∧
    w.cell? ⟨P.g, 4, none⟩ = some (.int .i64 G.s) ∧ w.cell? ⟨P.g, 5, none⟩ = some (.slice (some ⟨P.L, 0, none⟩) n P.c) := by
  have hh := h.head
  refine ⟨?_, ?_, ?_, ?_, ?_, ?_⟩ <;> simp [World.cell?, hh, headC]

/-- A line laid anew. -/
theorem Ls.put (h : Ls T sz ex G n w P f) {i : Nat} {x : Ln} (hx : Inv (upd f i x) n G.U) (ht : Tab w' P.L n sz (fun k => if k = i then lnL ex x else lnL ex (f k))) (hg : w.grownBy w' (some P.L)) : Ls T sz ex G n w' P (upd f i x) :=
  ⟨(hg.block _ h.ltg (fun e => h.ne (by injection e))).trans h.head, ht.congr fun k _ => by show lnL ex (if k = i then x else f k) = _; split <;> rfl, h.ne, hx, h.n0, h.nk, h.ok, h.nc, h.cm⟩

theorem Ls.set1 (h : Ls T sz ex G n w P f) {i : Nat} (hi : i < n) {x : Ln} (hx : Inv (upd f i x) n G.U) {j : Nat} (hj : j < 3) {v : Value} (he : (lnL ex (f i)).set j v = lnL ex x) :
    Ls T sz ex G n (w.setCell ⟨P.L, i * sz + j, none⟩ v) P (upd f i x) :=
  h.put hx ((h.tab.set hi (by have := h.tab.len i hi; simp [lnL] at this; omega) v).congr fun k _ => by rw [he]) (grown_setCell _ _ _)

theorem Ls.set2 (h : Ls T sz ex G n w P f) {i : Nat} (hi : i < n) {x : Ln} (hx : Inv (upd f i x) n G.U) {j j' : Nat} (hj : j < 3) (hj' : j' < 3) {v v' : Value} (he : ((lnL ex (f i)).set j v).set j' v' = lnL ex x) :
    Ls T sz ex G n ((w.setCell ⟨P.L, i * sz + j, none⟩ v).setCell ⟨P.L, i * sz + j', none⟩ v') P (upd f i x) := by
  have hl := h.tab.len i hi
  simp [lnL] at hl
  refine h.put hx (((h.tab.set hi (show j < sz by omega) v).set hi (show j' < sz by omega) v').congr fun k _ => ?_) ?_
  · by_cases e : k = i
    · simp only [e, if_true, he]
    · simp only [e, if_false]
  · have a := grown_setCell w ⟨P.L, i * sz + j, none⟩ v
    have b := grown_setCell (w.setCell ⟨P.L, i * sz + j, none⟩ v) ⟨P.L, i * sz + j', none⟩ v'
    exact ⟨b.os.trans a.os, b.tape.trans a.tape, b.output.trans a.output, Nat.le_trans a.size b.size, fun k hk hn => (b.block k (Nat.lt_of_lt_of_le hk a.size) hn).trans (a.block k hk hn)⟩

theorem grown_trans {u v x : World} {r : Option Nat} (a : u.grownBy v r) (b : v.grownBy x r) : u.grownBy x r :=
  ⟨b.os.trans a.os, b.tape.trans a.tape, b.output.trans a.output, Nat.le_trans a.size b.size, fun k hk hn => (b.block k (Nat.lt_of_lt_of_le hk a.size) hn).trans (a.block k hk hn)⟩

theorem below_grown {u v : World} (h : Below u.heap.size u v) (r : Option Nat) : u.grownBy v r := ⟨h.os, h.tape, h.output, h.size, fun k hk _ => h.block k hk⟩

theorem grown_turn {u v : World} {O : Nat → Prop} {r : Nat} (h : u.grownBy v (some r)) (hr : O r) : Turn O O u v := Turn.of_grown h hr
end

end Go.Proofs.Ytnnonkmkdjhacaa.LinesPkg
