/-
  Lines, and beside them a slice of what they were (rows of five cells) that the call itself has made.
-/
import Derived.Test.YtnnonkmkdjhacaaLinesKit
import Derived.Test.YtnnonkmkdjhacaaRowsOwn
namespace Go.Proofs.Ytnnonkmkdjhacaa.LinesLaw
open Go.RowKit Go.ChangeShapes Go.WideShapes Lines LinesPkg
open Nand (Shape upd)
set_option maxRecDepth 4000

theorem infoLine : rowInfo Try.prog 45 5 40 := by
  have h : (Try.prog.info? 45).map (fun i => (i.zero, i.size, i.bytes)) = some (some (.agg #[.int .i64 0, .int .i64 0, .int .i64 0, .int .i64 0, .int .i64 0]), 5, 40) := by kernel_rfl
  obtain ⟨i, hi, hzz⟩ := Option.map_eq_some_iff.1 h
  simp only [Prod.mk.injEq] at hzz
  exact ⟨i, _, hi, hzz.1, hzz.2.1, hzz.2.2, rfl⟩

def lrow (G : Shape) (x : Ln) : List Value := [.int .i64 x.st, .int .i64 x.wr, .int .i64 x.gd, .int .i64 0, .int .i64 (room G x.gd)]
def lrows (G : Shape) (f : St) (n : Nat) : List (List Value) := (List.range n).map fun i => lrow G (f i)
theorem lrows_len (G : Shape) (f : St) (n : Nat) : (lrows G f n).length = n := by simp [lrows]
theorem lrows_more (G : Shape) (f : St) (n : Nat) : lrows G f (n + 1) = lrows G f n ++ [lrow G (f n)] := by unfold lrows; rw [List.range_succ, List.map_append]; rfl
theorem lrows_at (G : Shape) (f : St) {n i : Nat} (hi : i < n) : (lrows G f n)[i]? = some (lrow G (f i)) := by unfold lrows; rw [List.getElem?_map, List.getElem?_range hi]; rfl

def Was (G : Shape) (n : Nat) (a : World) (gd : Nat) (f : St) (v : Value) (cs : List (List Value)) (w : World) : Prop :=
  ∃ P : Pl, P.g = gd ∧ Lp G n w P f ∧ (∀ b, P.own b → a.heap.size ≤ b) ∧ Below a.heap.size a w ∧ OwnR w a.heap.size 45 5 v cs ∧ ∀ b, v.ownBlock = some b → ¬ P.own b

section
variable {G : Shape} {n : Nat} {a w w' : World} {gd : Nat} {f : St} {v : Value} {cs : List (List Value)}

theorem was_start (h : Mine G n a gd f [] w) : Was G n a gd f (.slice none 0 0) [] w := by
  obtain ⟨P, h1, h2, h3, h4, _⟩ := h
  exact ⟨P, h1, h2, h3, h4, ownR_nil _ _ _ _, fun b hb => by simp [Value.ownBlock] at hb⟩

theorem Was.mine (h : Was G n a gd f v cs w) : Mine G n a gd f [] w := by
  obtain ⟨P, h1, h2, h3, h4, _⟩ := h
  exact ⟨P, h1, h2, h3, h4, fun q hq => absurd hq (by simp)⟩

theorem Was.below (h : Was G n a gd f v cs w) : Below a.heap.size a w := h.mine.below

theorem Was.on (h : Was G n a gd f v cs w) (hb : Below w.heap.size w w') : Was G n a gd f v cs w' := by
  obtain ⟨P, h1, h2, h3, h4, h5, h6⟩ := h
  exact ⟨P, h1, h2.below hb, h3, below_then h4 hb, h5.below hb, h6⟩

theorem Was.rows (h : Was G n a gd f v cs w) : OwnR w a.heap.size 45 5 v cs := by
  obtain ⟨_, _, _, _, _, h, _⟩ := h
  exact h

theorem was_get (h : Was G n a gd f v cs w) (i : Nat) (hi : i < n) :
    Calls Try.prog 15 #[ptr gd 0, .int .i64 (i : Int)] w fun x w' => x = .returned (.tuple #[lineV G (f i), .int .i64 0]) ∧ Was G n a gd f v cs w' :=
  (geti_m h.mine i hi).mono fun _ _ hh => ⟨hh.1, h.on hh.2.2⟩

theorem was_open (h : Was G n a gd f v cs w) :
    Calls Try.prog 16 #[ptr gd 0] w fun x w' => x = .returned (pairV (openR f n)) ∧ Was G n a gd (openS f n) v cs w' := by
  obtain ⟨P, rfl, h2, h3, h4, h5, h6⟩ := h
  exact (Open_any h2).mono fun x w' hh => ⟨hh.1, P, rfl, hh.2.1, h3, turn_below h4 hh.2.2 h3 h4.size, h5.keep fun k hk => hh.2.2.block k (h5.lt k hk) (h6 k hk), h6⟩

theorem was_more {A0 : Option Addr} {t c0 : Nat} (h : Was G n a gd f (.slice A0 t c0) (lrows G f t) w) (ht : t ≤ 1000) :
    ∃ (A : Option Addr) (c : Nat) (w6 : World), (Builtin.append_ #[43, 43] 43 #[.slice A0 t c0, .slice (some ⟨w.heap.size, 0, none⟩) 1 1]).run Try.prog (w.alloc (.cells #[.int .i64 (f t).st, .int .i64 (f t).wr, .int .i64 (f t).gd, .int .i64 0, .int .i64 (room G (f t).gd)] 45)) = .ok (.slice A (t + 1) c) w6 ∧
      Was G n a gd f (.slice A (t + 1) c) (lrows G f (t + 1)) w6 := by
  obtain ⟨P, h1, h2, h3, h4, h5, h6⟩ := h
  obtain ⟨v', w6, hrun, hrow, hg, hnew⟩ := run_append_row (P := Try.prog) w a.heap.size 43 43 45 5 40 (by omega) (by omega) Try.underlying43 infoLine _ _ h5 (lrow G (f t)) rfl
    (by intro u hu; simp only [lrow, List.mem_cons, List.not_mem_nil, or_false] at hu; rcases hu with rfl | rfl | rfl | rfl | rfl <;> rfl) (by rw [lrows_len]; omega) h4.size
  rw [← lrows_more] at hrow
  obtain ⟨A, c, hv, _⟩ := hrow.form
  rw [lrows_len] at hv
  subst hv
  have k4 : ∀ b, b < w.heap.size → (Value.slice A0 t c0).ownBlock ≠ some b → w6.heap[b]? = w.heap[b]? := fun b hb hn => by
    rw [hg.block b (by simp; omega) (fun e => hn e.symm), Below.heap_alloc w _ b hb]
  refine ⟨A, c, w6, hrun, P, h1, h2.keep fun b hb => k4 b (h2.lt b hb) (fun e => h6 b e hb), h3, ?_, hrow, fun b hb ho => ?_⟩
  · exact (h4.alloc h4.size _).grown hg (by simp; have := h4.size; omega) (fun k hk => h5.block k hk)
  · exact (hnew b hb).elim (fun e => h6 b e ho) (fun e => by have := h2.lt b ho; omega)

/-- A cell of a row. -/
theorem was_cell {g t c : Nat} {cs : List (List Value)} (h : Was G n a gd f (.slice (some ⟨g, 0, none⟩) t c) cs w) {i j : Nat} {r : List Value} {x : Value} (hr : cs[i]? = some r) (hx : r[j]? = some x) : w.cell? ⟨g, i * 5 + j, none⟩ = some x := (h.rows.cell hr hx).1
end

/-- What Open answers. -/
theorem open_cases (f : St) (n : Nat) : (∃ x e : Int, openR f n = (x, e) ∧ e ≠ 0) ∨ ∃ i : Nat, i < n ∧ openR f n = ((i : Int), 0) ∧ (f i).st = 0 ∧ ∀ j, j < n → (f j).st = 0 → (f i).wr ≤ (f j).wr ∧ ((f j).wr = (f i).wr → i ≤ j) := by
  unfold openR
  split
  · exact .inl ⟨_, _, rfl, by omega⟩
  · split
    · exact .inl ⟨_, _, rfl, by omega⟩
    · rename_i h1 h2
      rcases best_cases f n with ⟨h, _⟩ | ⟨i, hi, hb, hs, hl⟩
      · exact absurd h h2
      · exact .inr ⟨i, hi, by rw [hb], hs, hl⟩
end Go.Proofs.Ytnnonkmkdjhacaa.LinesLaw
