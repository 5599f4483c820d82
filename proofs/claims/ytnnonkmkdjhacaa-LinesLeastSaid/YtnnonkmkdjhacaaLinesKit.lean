/-
  Lines of the program's, made by a law: what their calls do, beside blocks that stay; the laws' own 'awake' of layer 12.
-/
import Derived.Test.YtnnonkmkdjhacaaLinesOpen
import Derived.Test.YtnnonkmkdjhacaaLinesSumG
import Derived.Test.YtnnonkmkdjhacaaLinesNew2
namespace Go.Proofs.Ytnnonkmkdjhacaa.LinesLaw
open Go.RowKit Lines LinesPkg
open Nand (Shape upd)
set_option maxRecDepth 4000

theorem turn_below {O O' : Nat → Prop} {a w w' : World} {B : Nat} (h : Below B a w) (ht : Turn O O' w w') (ho : ∀ b, O b → B ≤ b) (hB : B ≤ w.heap.size) : Below B a w' := h.trans (ht.below ho hB)

/-- Lines at block gd, that are as f says, all of whose memory is newer than a; of a nothing has turned; beside them stand the blocks sd. -/
def Mine (G : Shape) (n : Nat) (a : World) (gd : Nat) (f : St) (sd : List (Nat × Obj)) (w : World) : Prop :=
  ∃ P : Pl, P.g = gd ∧ Lp G n w P f ∧ (∀ b, P.own b → a.heap.size ≤ b) ∧ Below a.heap.size a w ∧ ∀ q ∈ sd, ¬ P.own q.1 ∧ w.heap[q.1]? = some q.2

section
variable {G : Shape} {n : Nat} {a w w' : World} {gd : Nat} {f : St} {sd : List (Nat × Obj)}

theorem Mine.below (h : Mine G n a gd f sd w) : Below a.heap.size a w := by
  obtain ⟨P, _, _, _, h, _⟩ := h
  exact h

theorem Mine.inv (h : Mine G n a gd f sd w) : Inv f n G.U ∧ (n : Int) = G.k ∧ n ≤ 64 ∧ 0 < n ∧ G.Ok := by
  obtain ⟨P, _, h, _⟩ := h
  exact ⟨h.inv, h.nk, h.n1, h.n0, h.ok⟩

theorem Mine.on (h : Mine G n a gd f sd w) (hb : Below w.heap.size w w') : Mine G n a gd f sd w' := by
  obtain ⟨P, h1, h2, h3, h4, h5⟩ := h
  exact ⟨P, h1, h2.below hb, h3, below_then h4 hb, fun q hq => ⟨(h5 q hq).1, (hb.block _ (Array.getElem?_eq_some_iff.1 (h5 q hq).2).1).trans (h5 q hq).2⟩⟩

theorem Mine.new (h : Mine G n a gd f sd w) (cs : Array Value) (t : TypeId) : Mine G n a gd f ((w.heap.size, .cells cs t (0, 0)) :: sd) (w.alloc (.cells cs t (0, 0))) := by
  have hb : Below w.heap.size w (w.alloc (.cells cs t (0, 0))) := (Below.refl _ _).alloc (Nat.le_refl _) _
  obtain ⟨P, h1, h2, h3, h4, h5⟩ := h
  refine ⟨P, h1, h2.below hb, h3, below_then h4 hb, fun q hq => ?_⟩
  rcases List.mem_cons.1 hq with rfl | hq
  · exact ⟨fun ho => by have := h2.lt _ ho; omega, heap_alloc_new w _⟩
  · exact ⟨(h5 q hq).1, (hb.block _ (Array.getElem?_eq_some_iff.1 (h5 q hq).2).1).trans (h5 q hq).2⟩

theorem Mine.at (h : Mine G n a gd f sd w) {b : Nat} {o : Obj} (hq : (b, o) ∈ sd) : w.heap[b]? = some o := by
  obtain ⟨P, _, _, _, _, h⟩ := h
  exact (h _ hq).2

theorem Mine.drop (h : Mine G n a gd f sd w) : Mine G n a gd f [] w := by
  obtain ⟨P, h1, h2, h3, h4, _⟩ := h
  exact ⟨P, h1, h2, h3, h4, fun q hq => absurd hq (by simp)⟩

theorem mine_turn {P : Pl} {g : St} (h2 : Lp G n w' P g) (h3 : ∀ b, P.own b → a.heap.size ≤ b) (h4 : Below a.heap.size a w) (h5 : ∀ q ∈ sd, ¬ P.own q.1 ∧ w.heap[q.1]? = some q.2) (ht : Turn P.own P.own w w') : Mine G n a P.g g sd w' :=
  ⟨P, rfl, h2, h3, turn_below h4 ht h3 h4.size, fun q hq => ⟨(h5 q hq).1, (ht.block _ (Array.getElem?_eq_some_iff.1 (h5 q hq).2).1 (h5 q hq).1).trans (h5 q hq).2⟩⟩

theorem New_m {G : Shape} (hG : G.Ok) (A1 : Option Addr) (n c1 : Nat) (A2 : Option Addr) (c2 : Nat) (zs1 zs2 : List Int) (a w : World) (hb0 : Below a.heap.size a w) (hr1 : Nums w w.heap.size A1 n zs1) (h1 : fine n G.k zs1 G.U) (hr2 : Nums w w.heap.size A2 n zs2) (h2 : fine n G.k zs2 2147483647) :
    Calls Try.prog 10 #[.agg #[.int .i64 G.c, .int .i64 G.l, .int .i64 G.k, .int .i64 G.p, .int .i64 G.s], .slice A1 n c1, .slice A2 n c2] w fun e w' => ∃ gd, e = .returned (.tuple #[ptr gd 0, .int .i64 0]) ∧ Mine G n a gd (LinesPkg.start zs1 zs2) [] w' := by
  refine (New_ok hG A1 n c1 A2 c2 zs1 zs2 w hr1 h1 hr2 h2).mono ?_
  rintro e w' ⟨P, rfl, hp, ho, hb⟩
  exact ⟨P.g, rfl, P, rfl, hp, fun b hb2 => Nat.le_trans hb0.size (ho b hb2), below_then hb0 hb, fun q hq => absurd hq (by simp)⟩

/-- What is told of a line, and the error beside it. -/
def getV (G : Shape) (f : St) (n : Nat) (line : Int) : Value := if 0 ≤ line ∧ line < n then lineV G (f line.toNat) else noLine
def getE (n : Nat) (line : Int) : Int := if 0 ≤ line ∧ line < n then 0 else 2

theorem Get_m (h : Mine G n a gd f sd w) (line : Int) :
    Calls Try.prog 15 #[ptr gd 0, .int .i64 line] w fun x w' => x = .returned (.tuple #[getV G f n line, .int .i64 (getE n line)]) ∧ Mine G n a gd f sd w' ∧ Below w.heap.size w w' := by
  have H := h
  obtain ⟨P, rfl, h3, _⟩ := h
  unfold getV getE
  by_cases hl : 0 ≤ line ∧ line < n
  · rw [if_pos hl, if_pos hl]
    obtain ⟨i, rfl⟩ := Int.eq_ofNat_of_zero_le hl.1
    rw [Int.toNat_natCast]
    exact (Get_in h3 i (by omega)).mono fun x w' hh => ⟨hh.1, H.on hh.2, hh.2⟩
  · rw [if_neg hl, if_neg hl]
    exact (Get_out h3 line hl).mono fun x w' hh => ⟨hh.1, H.on hh.2, hh.2⟩

theorem geti_m (h : Mine G n a gd f sd w) (i : Nat) (hi : i < n) :
    Calls Try.prog 15 #[ptr gd 0, .int .i64 (i : Int)] w fun x w' => x = .returned (.tuple #[lineV G (f i), .int .i64 0]) ∧ Mine G n a gd f sd w' ∧ Below w.heap.size w w' := by
  have H := h
  obtain ⟨P, rfl, h3, _⟩ := h
  exact (Get_in h3 i hi).mono fun x w' hh => ⟨hh.1, H.on hh.2, hh.2⟩

theorem Open_m (h : Mine G n a gd f sd w) :
    Calls Try.prog 16 #[ptr gd 0] w fun x w' => x = .returned (pairV (openR f n)) ∧ Mine G n a gd (openS f n) sd w' := by
  obtain ⟨P, rfl, h2, h3, h4, h5⟩ := h
  exact (Open_any h2).mono fun x w' hh => ⟨hh.1, mine_turn hh.2.1 h3 h4 h5 hh.2.2⟩

theorem Close_m (h : Mine G n a gd f sd w) :
    Calls Try.prog 17 #[ptr gd 0] w fun x w' => x = .returned (pairV (closeR f n)) ∧ Mine G n a gd (closeS f n) sd w' := by
  obtain ⟨P, rfl, h2, h3, h4, h5⟩ := h
  exact (Close_any h2).mono fun x w' hh => ⟨hh.1, mine_turn hh.2.1 h3 h4 h5 hh.2.2⟩

theorem Use_m (h : Mine G n a gd f sd w) (line : Int) :
    Calls Try.prog 22 #[ptr gd 0, .int .i64 line] w fun x w' => x = .returned (.int .i64 (chg f n line 0)) ∧ Mine G n a gd (doAt f n line 0 shut) sd w' := by
  obtain ⟨P, rfl, h2, h3, h4, h5⟩ := h
  exact (Use_any h2 line).mono fun x w' hh => ⟨hh.1, mine_turn hh.2.1 h3 h4 h5 (grown_turn hh.2.2 (.inr rfl))⟩

theorem Release_m (h : Mine G n a gd f sd w) (line : Int) :
    Calls Try.prog 18 #[ptr gd 0, .int .i64 line] w fun x w' => x = .returned (.int .i64 (chg f n line 2)) ∧ Mine G n a gd (doAt f n line 2 free) sd w' := by
  obtain ⟨P, rfl, h2, h3, h4, h5⟩ := h
  exact (Release_any h2 line).mono fun x w' hh => ⟨hh.1, mine_turn hh.2.1 h3 h4 h5 (grown_turn hh.2.2 (.inr rfl))⟩

theorem Erased_m (h : Mine G n a gd f sd w) (line : Int) :
    Calls Try.prog 19 #[ptr gd 0, .int .i64 line] w fun x w' => x = .returned (.int .i64 (chg f n line 1)) ∧ Mine G n a gd (doAt f n line 1 erase) sd w' := by
  obtain ⟨P, rfl, h2, h3, h4, h5⟩ := h
  exact (Erased_any h2 line).mono fun x w' hh => ⟨hh.1, mine_turn hh.2.1 h3 h4 h5 (grown_turn hh.2.2 (.inr rfl))⟩

theorem Lose_m (h : Mine G n a gd f sd w) (line : Int) :
    Calls Try.prog 21 #[ptr gd 0, .int .i64 line] w fun x w' => x = .returned (.int .i64 (loseE f n line)) ∧ Mine G n a gd (loseS f n line) sd w' := by
  obtain ⟨P, rfl, h2, h3, h4, h5⟩ := h
  exact (Lose_any h2 line).mono fun x w' hh => ⟨hh.1, mine_turn hh.2.1 h3 h4 h5 (grown_turn hh.2.2 (.inr rfl))⟩

theorem Current_m (h : Mine G n a gd f sd w) :
    Calls Try.prog 14 #[ptr gd 0] w fun x w' => x = .returned (.int .i64 (cur f n)) ∧ Mine G n a gd f sd w' ∧ Below w.heap.size w w' := by
  have H := h
  obtain ⟨P, rfl, h2, _⟩ := h
  exact (Current_any h2).mono fun x w' hh => ⟨hh.1, H.on hh.2, hh.2⟩

theorem Count_m (h : Mine G n a gd f sd w) (s : Int) :
    Calls Try.prog 23 #[ptr gd 0, .int .i64 s] w fun x w' => x = .returned (.int .i64 (cnt f s n)) ∧ Mine G n a gd f sd w' ∧ Below w.heap.size w w' := by
  have H := h
  obtain ⟨P, rfl, h2, _⟩ := h
  exact (Count_any h2 s).mono fun x w' hh => ⟨hh.1, H.on hh.2, hh.2⟩

theorem Capacity_m (h : Mine G n a gd f sd w) :
    Calls Try.prog 20 #[ptr gd 0] w fun x w' => x = .returned (.int .i64 (cap G f n)) ∧ Mine G n a gd f sd w' ∧ Below w.heap.size w w' := by
  have H := h
  obtain ⟨P, rfl, h2, _⟩ := h
  exact (Capacity_any h2).mono fun x w' hh => ⟨hh.1, H.on hh.2, hh.2⟩
end

/-- The geometry that 'awake' takes. -/
def tiny : Shape := ⟨1, 1, 2, 3, 1, 1, 1, 3, 6⟩
theorem tiny_ok : tiny.Ok := Geom.sizes (c := 1) (l := 1) (k := 2) (p := 3) (s := 1) (by decide)

theorem two_nums {w : World} {b : Nat} {x y : Int} (t : TypeId) (h : w.heap[b]? = some (.cells #[.int .i64 x, .int .i64 y] t (0, 0))) (hx : -9223372036854775808 ≤ x ∧ x ≤ 9223372036854775807) (hy : -9223372036854775808 ≤ y ∧ y ≤ 9223372036854775807) : Nums w w.heap.size (some ⟨b, 0, none⟩) 2 [x, y] := by
  have hl := (Array.getElem?_eq_some_iff.1 h).1
  refine ⟨rfl, fun i hi => ?_⟩
  have hi : i < 2 := hi
  rcases (show i = 0 ∨ i = 1 by omega) with rfl | rfl
  · exact ⟨hx.1, hx.2, b, 0, rfl, hl, by simp [World.cell?, h]⟩
  · exact ⟨hy.1, hy.2, b, 0, rfl, hl, by simp [World.cell?, h]⟩

set_option maxHeartbeats 2000000 in
theorem awake_any (w : World) : Calls Try.prog 9 #[] w fun e w' => e = .returned (.bool true) ∧ Below w.heap.size w w' := by
  obtain ⟨X, hX⟩ : ∃ X, X = (w.alloc (.cells #[.int .i64 1, .int .i64 1] 3)).alloc (.cells #[.int .i64 5, .int .i64 4] 3) := ⟨_, rfl⟩
  have hbX : Below w.heap.size w X := by rw [hX]; exact ((Below.refl w.heap.size w).alloc (Nat.le_refl _) _).alloc (by simp) _
  have h1 : X.heap[w.heap.size]? = some (.cells #[.int .i64 1, .int .i64 1] 3 (0, 0)) := by rw [hX]; exact (Below.heap_alloc _ _ _ (by simp)).trans (heap_alloc_new w _)
  have h2 : X.heap[w.heap.size + 1]? = some (.cells #[.int .i64 5, .int .i64 4] 3 (0, 0)) := by
    have := heap_alloc_new (w.alloc (.cells #[.int .i64 1, .int .i64 1] 3)) (.cells #[.int .i64 5, .int .i64 4] 3)
    rw [World.size_alloc] at this
    rw [hX]
    exact this
  have HN := Lib.hid (New_m tiny_ok (some ⟨w.heap.size, 0, none⟩) 2 2 (some ⟨w.heap.size + 1, 0, none⟩) 2 [1, 1] [5, 4] w X hbX (two_nums 3 h1 (by omega) (by omega)) (by decide) (two_nums 3 h2 (by omega) (by omega)) (by decide))
  obtain ⟨f, hf⟩ : ∃ f, f = LinesPkg.start [1, 1] [5, 4] := ⟨_, rfl⟩
  rw [← hf] at HN
  have HO := Lib.hid (fun gd w' (h : Mine tiny 2 w gd f [] w') => Open_m h)
  rw [show openR f 2 = (1, 0) by rw [hf]; decide] at HO
  obtain ⟨g, hg⟩ : ∃ g, g = openS f 2 := ⟨_, rfl⟩
  rw [← hg] at HO
  have HC := Lib.hid (fun gd w' (h : Mine tiny 2 w gd g [] w') => Current_m h)
  rw [show cur g 2 = 1 by rw [hg, hf]; decide] at HC
  have HP := Lib.hid (fun gd w' (h : Mine tiny 2 w gd g [] w') => Capacity_m h)
  rw [show cap tiny g 2 = 4 by rw [hg, hf]; decide] at HP
  have HX := Lib.hid hX
  clear hX hbX h1 h2 hf hg
  unfold tiny at HN
  dsimp only at HN
  go_enter Try.func9, Try.ntmps9
  go_wp2_with fail
  rw [← HX.out]
  refine HN.out.mono ?_
  rintro e w1 ⟨gd, rfl, h⟩
  have H := Lib.hid h
  clear h
  go_wp2_with fail
  refine (HO.out gd _ H.out).mono ?_
  rintro e w2 ⟨rfl, h⟩
  have H2 := Lib.hid h
  clear h
  unfold pairV
  go_wp2_with fail
  refine (HC.out gd _ H2.out).mono ?_
  rintro e w3 ⟨rfl, h, _⟩
  have H3 := Lib.hid h
  clear h
  go_wp2_with fail
  refine (HP.out gd _ H3.out).mono ?_
  rintro e w4 ⟨rfl, h, _⟩
  have H4 := Lib.hid h
  clear h
  go_wp2
  go_ret
  exact ⟨rfl, H4.out.below⟩
end Go.Proofs.Ytnnonkmkdjhacaa.LinesLaw
