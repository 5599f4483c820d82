/-
  The program's lines and the document's, side by side: what each call does to the pair, beside blocks that stay.
-/
import Derived.Test.YtnnonkmkdjhacaaLinesKit
import Derived.Test.YtnnonkmkdjhacaaLinesRef3
import Derived.Test.YtnnonkmkdjhacaaLinesRef4
import Derived.Test.YtnnonkmkdjhacaaLinesRef5
namespace Go.Proofs.Ytnnonkmkdjhacaa.LinesLaw
open Go.RowKit Lines LinesPkg
open Nand (Shape)
open LinesRef (Rf)
set_option maxRecDepth 4000

/-- The program's lines at block gd are as f says, the document's at block rr as f'; all their memory is newer than a, and apart; of a nothing has turned; beside them stand the blocks sd. -/
def Two (G : Shape) (n : Nat) (a : World) (gd rr : Nat) (f f' : St) (sd : List (Nat × Obj)) (w : World) : Prop :=
  ∃ (P Q : Pl), P.g = gd ∧ Q.g = rr ∧ Lp G n w P f ∧ Rf G n w Q f' ∧ (∀ b, Q.own b → ¬ P.own b) ∧ (∀ b, P.own b → a.heap.size ≤ b) ∧ (∀ b, Q.own b → a.heap.size ≤ b) ∧ Below a.heap.size a w ∧ ∀ q ∈ sd, (¬ P.own q.1 ∧ ¬ Q.own q.1) ∧ w.heap[q.1]? = some q.2

section
variable {G : Shape} {n : Nat} {a w w' : World} {gd rr : Nat} {f f' : St} {sd : List (Nat × Obj)}

theorem below_turn {O O' : Nat → Prop} {a w w' : World} {B : Nat} (h : Below B a w) (ht : Turn O O' w w') (ho : ∀ b, O b → B ≤ b) (hB : B ≤ w.heap.size) : Below B a w' := h.trans (ht.below ho hB)

theorem Two.below (h : Two G n a gd rr f f' sd w) : Below a.heap.size a w := by
  obtain ⟨P, Q, _, _, _, _, _, _, _, h, _⟩ := h
  exact h

theorem Two.inv (h : Two G n a gd rr f f' sd w) : Inv f n G.U ∧ (n : Int) = G.k ∧ n ≤ 64 ∧ 0 < n := by
  obtain ⟨P, Q, _, _, h, _⟩ := h
  exact ⟨h.inv, h.nk, h.n1, h.n0⟩

/-- How many there are: the document's own slice. -/
theorem Two.rcells (h : Two G n a gd rr f f' sd w) : ∃ L c, w.cell? ⟨rr, 5, none⟩ = some (.slice (some ⟨L, 0, none⟩) n c) := by
  obtain ⟨P, Q, _, rfl, _, h, _⟩ := h
  exact ⟨_, _, h.cells.2.2.2.2.2⟩

theorem Two.on (h : Two G n a gd rr f f' sd w) (hb : Below w.heap.size w w') : Two G n a gd rr f f' sd w' := by
  obtain ⟨P, Q, h1, h2, h3, h4, h5, h6, h7, h8, h9⟩ := h
  exact ⟨P, Q, h1, h2, h3.below hb, h4.below hb, h5, h6, h7, below_then h8 hb, fun q hq => ⟨(h9 q hq).1, (hb.block _ (Array.getElem?_eq_some_iff.1 (h9 q hq).2).1).trans (h9 q hq).2⟩⟩

/-- A block, that is neither's own, stands beside them. -/
theorem Two.new (h : Two G n a gd rr f f' sd w) (cs : Array Value) (t : TypeId) : Two G n a gd rr f f' ((w.heap.size, .cells cs t (0, 0)) :: sd) (w.alloc (.cells cs t (0, 0))) := by
  have hb : Below w.heap.size w (w.alloc (.cells cs t (0, 0))) := (Below.refl _ _).alloc (Nat.le_refl _) _
  obtain ⟨P, Q, h1, h2, h3, h4, h5, h6, h7, h8, h9⟩ := h
  refine ⟨P, Q, h1, h2, h3.below hb, h4.below hb, h5, h6, h7, below_then h8 hb, fun q hq => ?_⟩
  rcases List.mem_cons.1 hq with rfl | hq
  · exact ⟨⟨fun ho => by have := h3.lt _ ho; omega, fun ho => by have := h4.lt _ ho; omega⟩, heap_alloc_new w _⟩
  · exact ⟨(h9 q hq).1, (hb.block _ (Array.getElem?_eq_some_iff.1 (h9 q hq).2).1).trans (h9 q hq).2⟩

theorem Two.at (h : Two G n a gd rr f f' sd w) {b : Nat} {o : Obj} (hq : (b, o) ∈ sd) : w.heap[b]? = some o := by
  obtain ⟨P, Q, _, _, _, _, _, _, _, _, h⟩ := h
  exact (h _ hq).2

theorem Two.drop (h : Two G n a gd rr f f' sd w) : Two G n a gd rr f f' [] w := by
  obtain ⟨P, Q, h1, h2, h3, h4, h5, h6, h7, h8, _⟩ := h
  exact ⟨P, Q, h1, h2, h3, h4, h5, h6, h7, h8, fun q hq => absurd hq (by simp)⟩

theorem side_one {w w' : World} {O O' : Nat → Prop} {b : Nat} {o : Obj} (h1 : ¬ O b) (h2 : w.heap[b]? = some o) (ht : Turn O O' w w') : w'.heap[b]? = some o :=
  (ht.block _ (Array.getElem?_eq_some_iff.1 h2).1 h1).trans h2

/-- One of the two turned. -/
theorem two_p {P Q : Pl} {g : St} (h3 : Lp G n w' P g) (h4 : Rf G n w Q f') (h5 : ∀ b, Q.own b → ¬ P.own b) (h6 : ∀ b, P.own b → a.heap.size ≤ b) (h7 : ∀ b, Q.own b → a.heap.size ≤ b) (h8 : Below a.heap.size a w)
    (h9 : ∀ q ∈ sd, (¬ P.own q.1 ∧ ¬ Q.own q.1) ∧ w.heap[q.1]? = some q.2) (ht : Turn P.own P.own w w') : Two G n a P.g Q.g g f' sd w' :=
  ⟨P, Q, rfl, rfl, h3, h4.keep (ht.kept h4.lt h5), h5, h6, h7, below_turn h8 ht h6 h8.size, fun q hq => ⟨(h9 q hq).1, side_one (h9 q hq).1.1 (h9 q hq).2 ht⟩⟩

theorem two_q {P Q : Pl} {g : St} (h3 : Lp G n w P f) (h4 : Rf G n w' Q g) (h5 : ∀ b, Q.own b → ¬ P.own b) (h6 : ∀ b, P.own b → a.heap.size ≤ b) (h7 : ∀ b, Q.own b → a.heap.size ≤ b) (h8 : Below a.heap.size a w)
    (h9 : ∀ q ∈ sd, (¬ P.own q.1 ∧ ¬ Q.own q.1) ∧ w.heap[q.1]? = some q.2) (ht : Turn Q.own Q.own w w') : Two G n a P.g Q.g f g sd w' :=
  ⟨P, Q, rfl, rfl, h3.keep (ht.kept h3.lt fun b hb hq => h5 b hq hb), h4, h5, h6, h7, below_turn h8 ht h7 h8.size, fun q hq => ⟨(h9 q hq).1, side_one (h9 q hq).1.2 (h9 q hq).2 ht⟩⟩

theorem Open1 (h : Two G n a gd rr f f' sd w) :
    Calls Try.prog 16 #[ptr gd 0] w fun x w' => x = .returned (LinesPkg.pairV (openR f n)) ∧ Two G n a gd rr (openS f n) f' sd w' := by
  obtain ⟨P, Q, rfl, rfl, h3, h4, h5, h6, h7, h8, h9⟩ := h
  exact (Open_any h3).mono fun x w' hh => ⟨hh.1, two_p hh.2.1 h4 h5 h6 h7 h8 h9 hh.2.2⟩

theorem Open2 (h : Two G n a gd rr f f' sd w) :
    Calls Try.prog 35 #[ptr rr 0] w fun x w' => x = .returned (LinesRef.pairV (openR f' n)) ∧ Two G n a gd rr f (openS f' n) sd w' := by
  obtain ⟨P, Q, rfl, rfl, h3, h4, h5, h6, h7, h8, h9⟩ := h
  exact (LinesRef.Open_any h4).mono fun x w' hh => ⟨hh.1, two_q h3 hh.2.1 h5 h6 h7 h8 h9 hh.2.2⟩

theorem Close1 (h : Two G n a gd rr f f' sd w) :
    Calls Try.prog 17 #[ptr gd 0] w fun x w' => x = .returned (LinesPkg.pairV (closeR f n)) ∧ Two G n a gd rr (closeS f n) f' sd w' := by
  obtain ⟨P, Q, rfl, rfl, h3, h4, h5, h6, h7, h8, h9⟩ := h
  exact (Close_any h3).mono fun x w' hh => ⟨hh.1, two_p hh.2.1 h4 h5 h6 h7 h8 h9 hh.2.2⟩

theorem Close2 (h : Two G n a gd rr f f' sd w) :
    Calls Try.prog 36 #[ptr rr 0] w fun x w' => x = .returned (LinesRef.pairV (closeR f' n)) ∧ Two G n a gd rr f (closeS f' n) sd w' := by
  obtain ⟨P, Q, rfl, rfl, h3, h4, h5, h6, h7, h8, h9⟩ := h
  exact (LinesRef.Close_any h4).mono fun x w' hh => ⟨hh.1, two_q h3 hh.2.1 h5 h6 h7 h8 h9 hh.2.2⟩

theorem Use1 (h : Two G n a gd rr f f' sd w) (line : Int) :
    Calls Try.prog 22 #[ptr gd 0, .int .i64 line] w fun x w' => x = .returned (.int .i64 (chg f n line 0)) ∧ Two G n a gd rr (doAt f n line 0 shut) f' sd w' := by
  obtain ⟨P, Q, rfl, rfl, h3, h4, h5, h6, h7, h8, h9⟩ := h
  exact (Use_any h3 line).mono fun x w' hh => ⟨hh.1, two_p hh.2.1 h4 h5 h6 h7 h8 h9 (grown_turn hh.2.2 (.inr rfl))⟩

theorem Use2 (h : Two G n a gd rr f f' sd w) (line : Int) :
    Calls Try.prog 40 #[ptr rr 0, .int .i64 line] w fun x w' => x = .returned (.int .i64 (chg f' n line 0)) ∧ Two G n a gd rr f (doAt f' n line 0 shut) sd w' := by
  obtain ⟨P, Q, rfl, rfl, h3, h4, h5, h6, h7, h8, h9⟩ := h
  exact (LinesRef.Use_any h4 line).mono fun x w' hh => ⟨hh.1, two_q h3 hh.2.1 h5 h6 h7 h8 h9 (grown_turn hh.2.2 (.inr rfl))⟩

theorem Release1 (h : Two G n a gd rr f f' sd w) (line : Int) :
    Calls Try.prog 18 #[ptr gd 0, .int .i64 line] w fun x w' => x = .returned (.int .i64 (chg f n line 2)) ∧ Two G n a gd rr (doAt f n line 2 free) f' sd w' := by
  obtain ⟨P, Q, rfl, rfl, h3, h4, h5, h6, h7, h8, h9⟩ := h
  exact (Release_any h3 line).mono fun x w' hh => ⟨hh.1, two_p hh.2.1 h4 h5 h6 h7 h8 h9 (grown_turn hh.2.2 (.inr rfl))⟩

theorem Release2 (h : Two G n a gd rr f f' sd w) (line : Int) :
    Calls Try.prog 37 #[ptr rr 0, .int .i64 line] w fun x w' => x = .returned (.int .i64 (chg f' n line 2)) ∧ Two G n a gd rr f (doAt f' n line 2 free) sd w' := by
  obtain ⟨P, Q, rfl, rfl, h3, h4, h5, h6, h7, h8, h9⟩ := h
  exact (LinesRef.Release_any h4 line).mono fun x w' hh => ⟨hh.1, two_q h3 hh.2.1 h5 h6 h7 h8 h9 (grown_turn hh.2.2 (.inr rfl))⟩

theorem Erased1 (h : Two G n a gd rr f f' sd w) (line : Int) :
    Calls Try.prog 19 #[ptr gd 0, .int .i64 line] w fun x w' => x = .returned (.int .i64 (chg f n line 1)) ∧ Two G n a gd rr (doAt f n line 1 erase) f' sd w' := by
  obtain ⟨P, Q, rfl, rfl, h3, h4, h5, h6, h7, h8, h9⟩ := h
  exact (Erased_any h3 line).mono fun x w' hh => ⟨hh.1, two_p hh.2.1 h4 h5 h6 h7 h8 h9 (grown_turn hh.2.2 (.inr rfl))⟩

theorem Erased2 (h : Two G n a gd rr f f' sd w) (line : Int) :
    Calls Try.prog 38 #[ptr rr 0, .int .i64 line] w fun x w' => x = .returned (.int .i64 (chg f' n line 1)) ∧ Two G n a gd rr f (doAt f' n line 1 erase) sd w' := by
  obtain ⟨P, Q, rfl, rfl, h3, h4, h5, h6, h7, h8, h9⟩ := h
  exact (LinesRef.Erased_any h4 line).mono fun x w' hh => ⟨hh.1, two_q h3 hh.2.1 h5 h6 h7 h8 h9 (grown_turn hh.2.2 (.inr rfl))⟩

theorem Lose1 (h : Two G n a gd rr f f' sd w) (line : Int) :
    Calls Try.prog 21 #[ptr gd 0, .int .i64 line] w fun x w' => x = .returned (.int .i64 (loseE f n line)) ∧ Two G n a gd rr (loseS f n line) f' sd w' := by
  obtain ⟨P, Q, rfl, rfl, h3, h4, h5, h6, h7, h8, h9⟩ := h
  exact (Lose_any h3 line).mono fun x w' hh => ⟨hh.1, two_p hh.2.1 h4 h5 h6 h7 h8 h9 (grown_turn hh.2.2 (.inr rfl))⟩

theorem Lose2 (h : Two G n a gd rr f f' sd w) (line : Int) :
    Calls Try.prog 39 #[ptr rr 0, .int .i64 line] w fun x w' => x = .returned (.int .i64 (loseE f' n line)) ∧ Two G n a gd rr f (loseS f' n line) sd w' := by
  obtain ⟨P, Q, rfl, rfl, h3, h4, h5, h6, h7, h8, h9⟩ := h
  exact (LinesRef.Lose_any h4 line).mono fun x w' hh => ⟨hh.1, two_q h3 hh.2.1 h5 h6 h7 h8 h9 (grown_turn hh.2.2 (.inr rfl))⟩

theorem Current1 (h : Two G n a gd rr f f' sd w) :
    Calls Try.prog 14 #[ptr gd 0] w fun x w' => x = .returned (.int .i64 (cur f n)) ∧ Two G n a gd rr f f' sd w' ∧ Below w.heap.size w w' := by
  have H := h
  obtain ⟨P, Q, rfl, rfl, h3, h4, _⟩ := h
  exact (Current_any h3).mono fun x w' hh => ⟨hh.1, H.on hh.2, hh.2⟩

theorem Current2 (h : Two G n a gd rr f f' sd w) :
    Calls Try.prog 33 #[ptr rr 0] w fun x w' => x = .returned (.int .i64 (cur f' n)) ∧ Two G n a gd rr f f' sd w' ∧ Below w.heap.size w w' := by
  have H := h
  obtain ⟨P, Q, rfl, rfl, h3, h4, _⟩ := h
  exact (LinesRef.Current_any h4).mono fun x w' hh => ⟨hh.1, by rw [hh.2]; exact H, by rw [hh.2]; exact Below.refl _ _⟩

theorem Count1 (h : Two G n a gd rr f f' sd w) (s : Int) :
    Calls Try.prog 23 #[ptr gd 0, .int .i64 s] w fun x w' => x = .returned (.int .i64 (cnt f s n)) ∧ Two G n a gd rr f f' sd w' ∧ Below w.heap.size w w' := by
  have H := h
  obtain ⟨P, Q, rfl, rfl, h3, h4, _⟩ := h
  exact (Count_any h3 s).mono fun x w' hh => ⟨hh.1, H.on hh.2, hh.2⟩

theorem Count2 (h : Two G n a gd rr f f' sd w) (s : Int) :
    Calls Try.prog 32 #[ptr rr 0, .int .i64 s] w fun x w' => x = .returned (.int .i64 (cnt f' s n)) ∧ Two G n a gd rr f f' sd w' ∧ Below w.heap.size w w' := by
  have H := h
  obtain ⟨P, Q, rfl, rfl, h3, h4, _⟩ := h
  exact (LinesRef.Count_any h4 s).mono fun x w' hh => ⟨hh.1, by rw [hh.2]; exact H, by rw [hh.2]; exact Below.refl _ _⟩

theorem Capacity1 (h : Two G n a gd rr f f' sd w) :
    Calls Try.prog 20 #[ptr gd 0] w fun x w' => x = .returned (.int .i64 (cap G f n)) ∧ Two G n a gd rr f f' sd w' ∧ Below w.heap.size w w' := by
  have H := h
  obtain ⟨P, Q, rfl, rfl, h3, h4, _⟩ := h
  exact (Capacity_any h3).mono fun x w' hh => ⟨hh.1, H.on hh.2, hh.2⟩

theorem Capacity2 (h : Two G n a gd rr f f' sd w) :
    Calls Try.prog 34 #[ptr rr 0] w fun x w' => x = .returned (.int .i64 (cap G f' n)) ∧ Two G n a gd rr f f' sd w' ∧ Below w.heap.size w w' := by
  have H := h
  obtain ⟨P, Q, rfl, rfl, h3, h4, _⟩ := h
  exact (LinesRef.Capacity_any h4).mono fun x w' hh => ⟨hh.1, H.on hh.2, hh.2⟩

theorem Get1 (h : Two G n a gd rr f f' sd w) (line : Int) :
    Calls Try.prog 15 #[ptr gd 0, .int .i64 line] w fun x w' => x = .returned (.tuple #[getV G f n line, .int .i64 (getE n line)]) ∧ Two G n a gd rr f f' sd w' ∧ Below w.heap.size w w' := by
  have H := h
  obtain ⟨P, Q, rfl, rfl, h3, h4, _⟩ := h
  unfold getV getE
  by_cases hl : 0 ≤ line ∧ line < n
  · rw [if_pos hl, if_pos hl]
    obtain ⟨i, rfl⟩ := Int.eq_ofNat_of_zero_le hl.1
    rw [Int.toNat_natCast]
    exact (Get_in h3 i (by omega)).mono fun x w' hh => ⟨hh.1, H.on hh.2, hh.2⟩
  · rw [if_neg hl, if_neg hl]
    exact (Get_out h3 line hl).mono fun x w' hh => ⟨hh.1, H.on hh.2, hh.2⟩

theorem Get2 (h : Two G n a gd rr f f' sd w) (line : Int) :
    Calls Try.prog 31 #[ptr rr 0, .int .i64 line] w fun x w' => x = .returned (.tuple #[getV G f' n line, .int .i64 (getE n line)]) ∧ Two G n a gd rr f f' sd w' ∧ Below w.heap.size w w' := by
  have H := h
  obtain ⟨P, Q, rfl, rfl, h3, h4, _⟩ := h
  unfold getV getE
  by_cases hl : 0 ≤ line ∧ line < n
  · rw [if_pos hl, if_pos hl]
    obtain ⟨i, rfl⟩ := Int.eq_ofNat_of_zero_le hl.1
    rw [Int.toNat_natCast]
    exact (LinesRef.Get_in h4 i (by omega)).mono fun x w' hh => ⟨hh.1, H.on hh.2, hh.2⟩
  · rw [if_neg hl, if_neg hl]
    exact (LinesRef.Get_out h4 line hl).mono fun x w' hh => ⟨hh.1, H.on hh.2, hh.2⟩
end
end Go.Proofs.Ytnnonkmkdjhacaa.LinesLaw
