/-
  One map, made by a law: what its calls do, in short; the laws' own 'awake' of layer 11.
-/
import Derived.Test.YtpheblblkkclbaaL2pLines
import Derived.Test.YtpheblblkkclbaaLawKit
import Derived.Test.YtpheblblkkclbaaStructs
namespace Go.Proofs.Ytpheblblkkclbaa.L2pLaw
open Go.RowKit L2p L2pPkg
open Nand (Shape)
set_option maxRecDepth 4000

theorem below_turn {O O' : Nat → Prop} {a w w' : World} {B : Nat} (h : Below B a w) (ht : Turn O O' w w') (ho : ∀ b, O b → B ≤ b) (hB : B ≤ w.heap.size) : Below B a w' := h.trans (ht.below ho hB)

/-- A map whose block is gd, all of whose memory is newer than a; of a nothing has turned; beside it stand the blocks sd. -/
def Mine (G : Shape) (n : Nat) (a : World) (gd : Nat) (st : St) (sd : List (Nat × Obj)) (w : World) : Prop := ∃ P : Pl, P.g = gd ∧ Mp G n w P st ∧ (∀ b, P.own n G.N.toNat b → a.heap.size ≤ b) ∧ Below a.heap.size a w ∧ ∀ q ∈ sd, ¬ P.own n G.N.toNat q.1 ∧ w.heap[q.1]? = some q.2

theorem side_turn {w w' : World} {O O' : Nat → Prop} {sd : List (Nat × Obj)} (h : ∀ q ∈ sd, ¬ O q.1 ∧ w.heap[q.1]? = some q.2) (ht : Turn O O' w w') : ∀ q ∈ sd, ¬ O' q.1 ∧ w'.heap[q.1]? = some q.2 := fun q hq => by
  obtain ⟨h1, h2⟩ := h q hq
  have hl := (Array.getElem?_eq_some_iff.1 h2).1
  exact ⟨fun ho => (ht.own _ ho).elim h1 (fun hs => by omega), (ht.block _ hl h1).trans h2⟩

section
variable {G : Shape} {n : Nat} {a w w' : World} {gd : Nat} {st : St} {sd : List (Nat × Obj)}

theorem Mine.below (h : Mine G n a gd st sd w) : Below a.heap.size a w := by
  obtain ⟨P, _, _, _, h, _⟩ := h
  exact h

theorem Mine.inv (h : Mine G n a gd st sd w) : Inv st n G.N := by
  obtain ⟨P, _, h, _⟩ := h
  exact h.inv

theorem Mine.on (h : Mine G n a gd st sd w) (hb : Below w.heap.size w w') : Mine G n a gd st sd w' := by
  obtain ⟨P, h1, h2, h3, h4, h5⟩ := h
  exact ⟨P, h1, h2.below hb, h3, below_then h4 hb, fun q hq => ⟨(h5 q hq).1, (hb.block _ (Array.getElem?_eq_some_iff.1 (h5 q hq).2).1).trans (h5 q hq).2⟩⟩

/-- A block, that is not its own, stands beside it. -/
theorem Mine.new (h : Mine G n a gd st sd w) (cs : Array Value) (t : TypeId) : Mine G n a gd st ((w.heap.size, .cells cs t (0, 0)) :: sd) (w.alloc (.cells cs t (0, 0))) := by
  have hb : Below w.heap.size w (w.alloc (.cells cs t (0, 0))) := (Below.refl _ _).alloc (Nat.le_refl _) _
  obtain ⟨P, h1, h2, h3, h4, h5⟩ := h
  refine ⟨P, h1, h2.below hb, h3, below_then h4 hb, fun q hq => ?_⟩
  rcases List.mem_cons.1 hq with rfl | hq
  · exact ⟨fun ho => by have := h2.lt _ ho; omega, heap_alloc_new w _⟩
  · exact ⟨(h5 q hq).1, (hb.block _ (Array.getElem?_eq_some_iff.1 (h5 q hq).2).1).trans (h5 q hq).2⟩

theorem Mine.at (h : Mine G n a gd st sd w) {b : Nat} {o : Obj} (hq : (b, o) ∈ sd) : w.heap[b]? = some o := by
  obtain ⟨P, _, _, _, _, h⟩ := h
  exact (h _ hq).2

theorem New_m (hG : G.Ok) (a w : World) (hb0 : Below a.heap.size a w) (n : Nat) (h0 : 1 ≤ n) (h1 : n ≤ 4096) (h2 : (n : Int) ≤ G.N) : Calls Try.prog 18 #[geoV G, .int .i64 (n : Int)] w fun e w' => ∃ gd, e = .returned (.tuple #[ptr gd 0, .int .i64 0]) ∧ Mine G n a gd (fun _ => off) [] w' := by
  refine (New_ok hG n h0 h1 h2 w).mono ?_
  rintro e w' ⟨⟨P, rfl, h, h2⟩, h3⟩
  exact ⟨P.g, rfl, P, rfl, h, fun b hb => Nat.le_trans hb0.size (h2 b hb), below_then hb0 h3, fun q hq => absurd hq (by simp)⟩

theorem Set_m (hG : G.Ok) (h : Mine G n a gd st sd w) (lba : Int) (e : Ent) :
    Calls Try.prog 19 #[ptr gd 0, .int .i64 lba, entV e] w fun x w' => x = .returned (setV (setDo st n G.N lba e) (setOk st n G.N lba e)) ∧ Mine G n a gd (setSt st n G.N lba e) sd w' := by
  obtain ⟨P, rfl, h2, h3, h4, h5⟩ := h
  refine (Set_any h2 hG.n1 lba e).mono ?_
  rintro x w' ⟨rfl, P', hg, hr, ht⟩
  exact ⟨rfl, P', hg, hr, ht.up h3 h4.size, below_turn h4 ht h3 h4.size, side_turn h5 ht⟩

theorem Move_m (hG : G.Ok) (h : Mine G n a gd st sd w) (lba fr to : Int) :
    Calls Try.prog 20 #[ptr gd 0, .int .i64 lba, .int .i64 fr, .int .i64 to] w fun x w' => x = .returned (setV (moveDo st n G.N lba fr to) (moveOk st n G.N lba to)) ∧ Mine G n a gd (moveSt st n G.N lba fr to) sd w' := by
  obtain ⟨P, rfl, h2, h3, h4, h5⟩ := h
  refine (Move_any h2 hG.n1 lba fr to).mono ?_
  rintro x w' ⟨rfl, P', hg, hr, ht⟩
  exact ⟨rfl, P', hg, hr, ht.up h3 h4.size, below_turn h4 ht h3 h4.size, side_turn h5 ht⟩

theorem Get_m (h : Mine G n a gd st sd w) (lba : Int) :
    Calls Try.prog 11 #[ptr gd 0, .int .i64 lba] w fun x w' => x = .returned (.tuple #[entV (getE st n lba), .int .i64 (getK n lba)]) ∧ Below w.heap.size w w' := by
  obtain ⟨P, rfl, h2, _⟩ := h
  exact Get_any h2 lba

theorem Live_m (hG : G.Ok) (h : Mine G n a gd st sd w) (x : Int) :
    Calls Try.prog 21 #[ptr gd 0, .int .i64 x] w fun e w' => e = .returned (liveV (liveAt st n G.N x)) ∧ w' = w := by
  obtain ⟨P, rfl, h2, _⟩ := h
  exact Live_any h2 hG.n1 x

theorem Many_m (h : Mine G n a gd st sd w) :
    Calls Try.prog 13 #[ptr gd 0] w fun x w' => x = .returned (.int .i64 (many st n)) ∧ Below w.heap.size w w' := by
  obtain ⟨P, rfl, h2, _⟩ := h
  exact Many_any h2

theorem Valid_m (hG : G.Ok) (h : Mine G n a gd st sd w) (line : Int) :
    Calls Try.prog 26 #[ptr gd 0, .int .i64 line] w fun x w' => x = .returned (.int .i64 (validAt st n G line)) ∧ Below w.heap.size w w' := by
  obtain ⟨P, rfl, h2, _⟩ := h
  exact Valid_any hG h2 line

theorem Bits_m (hG : G.Ok) (h : Mine G n a gd st sd w) (line : Int) :
    Calls Try.prog 14 #[ptr gd 0, .int .i64 line] w fun x w' => ∃ v, x = .returned v ∧ Own w' w.heap.size 5 v (bitsAt st n G line) ∧ Below w.heap.size w w' := by
  obtain ⟨P, rfl, h2, _⟩ := h
  exact Bits_any hG h2 line
end

section
variable {G : Shape} {n : Nat} {a w w' : World} {gd : Nat} {st : St} {sd : List (Nat × Obj)}

theorem Set_yes (hG : G.Ok) (h : Mine G n a gd st sd w) (i : Nat) (hi : i < n) (e : Ent) (hr : right G.N e) (ho : who st n e.a = -1 ∨ who st n e.a = i) (hs : (st i).s < e.s) :
    Calls Try.prog 19 #[ptr gd 0, .int .i64 (i : Int), entV e] w fun x w' => x = .returned (setV true 0) ∧ Mine G n a gd (put st i e) sd w' := by
  have e1 : setOk st n G.N i e = 0 := by unfold setOk; rw [if_neg (by omega), if_neg (fun h => h hr), if_neg (by omega)]
  have e2 : setDo st n G.N i e = true := by unfold setDo; rw [e1]; exact decide_eq_true ⟨rfl, hs⟩
  have e3 : setSt st n G.N i e = put st i e := by unfold setSt; rw [e2]; rfl
  have := Set_m hG h i e
  rwa [e1, e2, e3] at this

theorem Set_busy (hG : G.Ok) (h : Mine G n a gd st sd w) (i : Nat) (hi : i < n) (e : Ent) (hr : right G.N e) (ho : who st n e.a ≠ -1 ∧ who st n e.a ≠ i) :
    Calls Try.prog 19 #[ptr gd 0, .int .i64 (i : Int), entV e] w fun x w' => x = .returned (setV false 13) ∧ Mine G n a gd st sd w' := by
  have e1 : setOk st n G.N i e = 13 := by unfold setOk; rw [if_neg (by omega), if_neg (fun h => h hr), if_pos ho]
  have e2 : setDo st n G.N i e = false := by unfold setDo; rw [e1]; rfl
  have e3 : setSt st n G.N i e = st := by unfold setSt; rw [e2]; rfl
  have := Set_m hG h i e
  rwa [e1, e2, e3] at this

theorem Move_yes (hG : G.Ok) (h : Mine G n a gd st sd w) (i : Nat) (hi : i < n) (fr to : Int) (h0 : 0 ≤ to) (h1 : to < G.N) (ho : who st n to = -1 ∨ who st n to = i) (hm : (st i).a ≠ -1) (hf : (st i).a = fr) :
    Calls Try.prog 20 #[ptr gd 0, .int .i64 (i : Int), .int .i64 fr, .int .i64 to] w fun x w' => x = .returned (setV true 0) ∧ Mine G n a gd (put st i (moved (st i) to)) sd w' := by
  have e1 : moveOk st n G.N i to = 0 := by unfold moveOk; rw [if_neg (by omega), if_neg (by omega), if_neg (by omega)]
  have e2 : moveDo st n G.N i fr to = true := by unfold moveDo; rw [e1]; exact decide_eq_true ⟨rfl, hm, hf⟩
  have e3 : moveSt st n G.N i fr to = put st i (moved (st i) to) := by unfold moveSt; rw [e2]; rfl
  have := Move_m hG h i fr to
  rwa [e1, e2, e3] at this

theorem Move_busy (hG : G.Ok) (h : Mine G n a gd st sd w) (i : Nat) (hi : i < n) (fr to : Int) (h0 : 0 ≤ to) (h1 : to < G.N) (ho : who st n to ≠ -1 ∧ who st n to ≠ i) :
    Calls Try.prog 20 #[ptr gd 0, .int .i64 (i : Int), .int .i64 fr, .int .i64 to] w fun x w' => x = .returned (setV false 13) ∧ Mine G n a gd st sd w' := by
  have e1 : moveOk st n G.N i to = 13 := by unfold moveOk; rw [if_neg (by omega), if_neg (by omega), if_pos ho]
  have e2 : moveDo st n G.N i fr to = false := by unfold moveDo; rw [e1]; rfl
  have e3 : moveSt st n G.N i fr to = st := by unfold moveSt; rw [e2]; rfl
  have := Move_m hG h i fr to
  rwa [e1, e2, e3] at this
end

/-- Two sectors. -/
def two (e0 e1 : Ent) : St := fun k => if k = 0 then e0 else if k = 1 then e1 else off
theorem two_off : (fun _ => off) = two off off := by
  funext k
  unfold two
  split
  · rfl
  · split <;> rfl
theorem two_0 (e0 e1 : Ent) : two e0 e1 0 = e0 := rfl
theorem two_1 (e0 e1 : Ent) : two e0 e1 1 = e1 := rfl
theorem put_0 (e0 e1 e : Ent) : put (two e0 e1) 0 e = two e e1 := by
  funext k
  unfold put two
  by_cases h : k = 0 <;> simp [h]
theorem put_1 (e0 e1 e : Ent) : put (two e0 e1) 1 e = two e0 e := by
  funext k
  unfold put two
  by_cases h : k = 1
  · simp [h]
  · by_cases h0 : k = 0 <;> simp [h, h0]
theorem who_two (e0 e1 : Ent) (a : Int) : who (two e0 e1) 2 a = if e0.a = a then 0 else if e1.a = a then 1 else -1 := by
  show (if (if (-1 : Int) = -1 then (if e0.a = a then ((0 : Nat) : Int) else -1) else -1) = -1 then (if e1.a = a then ((1 : Nat) : Int) else -1) else (if (-1 : Int) = -1 then (if e0.a = a then ((0 : Nat) : Int) else -1) else -1)) = _
  by_cases h0 : e0.a = a <;> by_cases h1 : e1.a = a <;> simp [h0, h1]

/-- The device of 'awake': two lines of eight sectors. -/
def tiny : Shape := ⟨1, 1, 2, 4, 2, 1, 2, 8, 16⟩
theorem tiny_ok : tiny.Ok := ⟨by unfold Geom.ok; decide, rfl, rfl, rfl, rfl, by decide, by decide, by decide, by decide, by decide, by decide, by decide, by decide⟩

set_option maxHeartbeats 1000000 in
theorem awake_any (w : World) : Calls Try.prog 9 #[] w fun e w' => e = .returned (.bool true) ∧ Below w.heap.size w w' := by
  have HN := Lib.hid (New_m tiny_ok w w (Below.refl _ _) 5 (by omega) (by omega) (by decide))
  have HS := Lib.hid (fun gd w' (h : Mine tiny 5 w gd (fun _ => off) [] w') => Set_m tiny_ok h 3 ⟨9, 5, 1⟩)
  rw [show setDo (fun _ => off) 5 tiny.N 3 ⟨9, 5, 1⟩ = true by decide, show setOk (fun _ => off) 5 tiny.N 3 ⟨9, 5, 1⟩ = 0 by decide] at HS
  generalize hs1 : setSt (fun _ => off) 5 tiny.N 3 ⟨9, 5, 1⟩ = s1 at HS
  have HM := Lib.hid (fun gd w' (h : Mine tiny 5 w gd s1 [] w') => Move_m tiny_ok h 3 9 7)
  rw [show moveDo s1 5 tiny.N 3 9 7 = true by rw [← hs1]; decide, show moveOk s1 5 tiny.N 3 7 = 0 by rw [← hs1]; decide] at HM
  generalize hs2 : moveSt s1 5 tiny.N 3 9 7 = s2 at HM
  have HL := Lib.hid (fun gd w' (h : Mine tiny 5 w gd s2 [] w') => Live_m tiny_ok h 7)
  rw [show liveAt s2 5 tiny.N 7 = 3 by rw [← hs2, ← hs1]; decide, show liveV 3 = .tuple #[.int .i64 3, .bool true] from rfl] at HL
  clear hs1 hs2
  go_enter Try.func9, Try.ntmps9
  go_wp2_with fail
  refine HN.out.mono ?_
  rintro e w1 ⟨gd, rfl, h⟩
  have H := Lib.hid h
  clear h
  go_wp2_with fail
  refine (HS.out gd _ H.out).mono ?_
  rintro e w2 ⟨rfl, h⟩
  replace H := Lib.hid h
  clear h
  unfold setV
  go_wp2_with fail
  refine (HM.out gd _ H.out).mono ?_
  rintro e w3 ⟨rfl, h⟩
  replace H := Lib.hid h
  clear h
  unfold setV
  go_wp2_with fail
  refine (HL.out gd _ H.out).mono ?_
  rintro e w4 ⟨rfl, hw⟩; subst w4
  go_wp2
  go_ret
  exact ⟨rfl, H.out.below⟩
end Go.Proofs.Ytpheblblkkclbaa.L2pLaw
