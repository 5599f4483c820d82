/-
  What the laws' 'does' of layer 12 does to the program's lines and the document's: it answers true, and both go the same way. Printed by does.py.
-/
import Derived.Test.YtnnonkmkdjhacaaLinesAlike
namespace Go.Proofs.Ytnnonkmkdjhacaa.LinesLaw
open Go.RowKit Lines LinesPkg
open Nand (Shape)
set_option maxRecDepth 4000

theorem cells3 {w : World} {b : Nat} {x0 x1 x2 : Value} {t : TypeId} (h : w.heap[b]? = some (.cells #[x0, x1, x2] t (0, 0))) : w.cell? ⟨b, 0, none⟩ = some x0 ∧ w.cell? ⟨b, 1, none⟩ = some x1 ∧ w.cell? ⟨b, 2, none⟩ = some x2 := by
  refine ⟨?_, ?_, ?_⟩ <;> simp [World.cell?, h]

def opV (x0 x1 : Int) (own : Bool) : Value := .agg #[.int .i64 x0, .int .i64 x1, .bool own]

section
variable {G : Shape} {n : Nat} {a w : World} {gd rr : Nat} {f : St}

set_option maxHeartbeats 4000000 in
theorem does_open (h : Two G n a gd rr f f [] w) (x0 x1 : Int) (hx : x0 = 0 ∨ x0 = 1) :
    Calls Try.prog 13 #[ptr gd 0, ptr rr 0, opV x0 x1 false] w fun e w' => e = .returned (.bool true) ∧ ∃ f', Two G n a gd rr f' f' [] w' := by
  have H := Lib.hid (h.new #[.int .i64 x0, .int .i64 x1, .bool false] 40)
  clear h
  rcases hx with rfl | rfl
  all_goals
    go_enter Try.func13, Try.ntmps13
    unfold opV
    obtain ⟨c0, c1, c2⟩ := cells3 (H.out.at (.head _))
    have HC1 := Lib.hid (Open1 H.out)
    have HC2 := Lib.hid (fun sd w (h : Two G n a gd rr (openS f n) f sd w) => Open2 h)
    generalize openR f n = Q at HC1 HC2
    obtain ⟨q1, q2⟩ := Q
    unfold LinesPkg.pairV at HC1
    unfold LinesRef.pairV at HC2
    dsimp only at HC1 HC2
    go_wp2_with fail
    refine HC1.out.mono ?_
    rintro e2 w2 ⟨rfl, h⟩
    replace H := Lib.hid h
    clear h HC1 c0 c1 c2
    go_wp2_with fail
    refine (HC2.out _ _ H.out).mono ?_
    rintro e3 w3 ⟨rfl, h⟩
    replace H := Lib.hid h
    clear h HC2
    go_wp2
    go_ret
    exact ⟨rfl, _, H.out.drop⟩

set_option maxHeartbeats 4000000 in
theorem does_close (h : Two G n a gd rr f f [] w) (x0 x1 : Int) (hx : x0 = 2) :
    Calls Try.prog 13 #[ptr gd 0, ptr rr 0, opV x0 x1 false] w fun e w' => e = .returned (.bool true) ∧ ∃ f', Two G n a gd rr f' f' [] w' := by
  have H := Lib.hid (h.new #[.int .i64 x0, .int .i64 x1, .bool false] 40)
  clear h
  subst hx
  go_enter Try.func13, Try.ntmps13
  unfold opV
  obtain ⟨c0, c1, c2⟩ := cells3 (H.out.at (.head _))
  have HC1 := Lib.hid (Close1 H.out)
  have HC2 := Lib.hid (fun sd w (h : Two G n a gd rr (closeS f n) f sd w) => Close2 h)
  generalize closeR f n = Q at HC1 HC2
  obtain ⟨q1, q2⟩ := Q
  unfold LinesPkg.pairV at HC1
  unfold LinesRef.pairV at HC2
  dsimp only at HC1 HC2
  go_wp2_with fail
  refine HC1.out.mono ?_
  rintro e2 w2 ⟨rfl, h⟩
  replace H := Lib.hid h
  clear h HC1 c0 c1 c2
  go_wp2_with fail
  refine (HC2.out _ _ H.out).mono ?_
  rintro e3 w3 ⟨rfl, h⟩
  replace H := Lib.hid h
  clear h HC2
  go_wp2
  go_ret
  exact ⟨rfl, _, H.out.drop⟩

set_option maxHeartbeats 4000000 in
theorem does_release (h : Two G n a gd rr f f [] w) (x0 x1 : Int) (hx : x0 = 3) :
    Calls Try.prog 13 #[ptr gd 0, ptr rr 0, opV x0 x1 false] w fun e w' => e = .returned (.bool true) ∧ ∃ f', Two G n a gd rr f' f' [] w' := by
  have H := Lib.hid (h.new #[.int .i64 x0, .int .i64 x1, .bool false] 40)
  clear h
  subst hx
  go_enter Try.func13, Try.ntmps13
  unfold opV
  obtain ⟨c0, c1, c2⟩ := cells3 (H.out.at (.head _))
  have HC1 := Lib.hid (Release1 H.out x1)
  have HC2 := Lib.hid (fun sd w (h : Two G n a gd rr (doAt f n x1 2 free) f sd w) => Release2 h x1)
  generalize chg f n x1 2 = Q at HC1 HC2
  go_wp2_with fail
  refine HC1.out.mono ?_
  rintro e2 w2 ⟨rfl, h⟩
  replace H := Lib.hid h
  clear h HC1 c0 c1 c2
  go_wp2_with fail
  refine (HC2.out _ _ H.out).mono ?_
  rintro e3 w3 ⟨rfl, h⟩
  replace H := Lib.hid h
  clear h HC2
  go_wp2
  go_ret
  exact ⟨rfl, _, H.out.drop⟩

set_option maxHeartbeats 4000000 in
theorem does_erased (h : Two G n a gd rr f f [] w) (x0 x1 : Int) (hx : x0 = 4) :
    Calls Try.prog 13 #[ptr gd 0, ptr rr 0, opV x0 x1 false] w fun e w' => e = .returned (.bool true) ∧ ∃ f', Two G n a gd rr f' f' [] w' := by
  have H := Lib.hid (h.new #[.int .i64 x0, .int .i64 x1, .bool false] 40)
  clear h
  subst hx
  go_enter Try.func13, Try.ntmps13
  unfold opV
  obtain ⟨c0, c1, c2⟩ := cells3 (H.out.at (.head _))
  have HC1 := Lib.hid (Erased1 H.out x1)
  have HC2 := Lib.hid (fun sd w (h : Two G n a gd rr (doAt f n x1 1 erase) f sd w) => Erased2 h x1)
  generalize chg f n x1 1 = Q at HC1 HC2
  go_wp2_with fail
  refine HC1.out.mono ?_
  rintro e2 w2 ⟨rfl, h⟩
  replace H := Lib.hid h
  clear h HC1 c0 c1 c2
  go_wp2_with fail
  refine (HC2.out _ _ H.out).mono ?_
  rintro e3 w3 ⟨rfl, h⟩
  replace H := Lib.hid h
  clear h HC2
  go_wp2
  go_ret
  exact ⟨rfl, _, H.out.drop⟩

set_option maxHeartbeats 4000000 in
theorem does_lose (h : Two G n a gd rr f f [] w) (x0 x1 : Int) (hx : x0 = 5) :
    Calls Try.prog 13 #[ptr gd 0, ptr rr 0, opV x0 x1 false] w fun e w' => e = .returned (.bool true) ∧ ∃ f', Two G n a gd rr f' f' [] w' := by
  have H := Lib.hid (h.new #[.int .i64 x0, .int .i64 x1, .bool false] 40)
  clear h
  subst hx
  go_enter Try.func13, Try.ntmps13
  unfold opV
  obtain ⟨c0, c1, c2⟩ := cells3 (H.out.at (.head _))
  have HC1 := Lib.hid (Lose1 H.out x1)
  have HC2 := Lib.hid (fun sd w (h : Two G n a gd rr (loseS f n x1) f sd w) => Lose2 h x1)
  generalize loseE f n x1 = Q at HC1 HC2
  go_wp2_with fail
  refine HC1.out.mono ?_
  rintro e2 w2 ⟨rfl, h⟩
  replace H := Lib.hid h
  clear h HC1 c0 c1 c2
  go_wp2_with fail
  refine (HC2.out _ _ H.out).mono ?_
  rintro e3 w3 ⟨rfl, h⟩
  replace H := Lib.hid h
  clear h HC2
  go_wp2
  go_ret
  exact ⟨rfl, _, H.out.drop⟩

set_option maxHeartbeats 4000000 in
theorem does_use (h : Two G n a gd rr f f [] w) (x0 x1 : Int) (hx : x0 = 6) :
    Calls Try.prog 13 #[ptr gd 0, ptr rr 0, opV x0 x1 false] w fun e w' => e = .returned (.bool true) ∧ ∃ f', Two G n a gd rr f' f' [] w' := by
  have H := Lib.hid (h.new #[.int .i64 x0, .int .i64 x1, .bool false] 40)
  clear h
  subst hx
  go_enter Try.func13, Try.ntmps13
  unfold opV
  obtain ⟨c0, c1, c2⟩ := cells3 (H.out.at (.head _))
  have HC1 := Lib.hid (Use1 H.out x1)
  have HC2 := Lib.hid (fun sd w (h : Two G n a gd rr (doAt f n x1 0 shut) f sd w) => Use2 h x1)
  generalize chg f n x1 0 = Q at HC1 HC2
  go_wp2_with fail
  refine HC1.out.mono ?_
  rintro e2 w2 ⟨rfl, h⟩
  replace H := Lib.hid h
  clear h HC1 c0 c1 c2
  go_wp2_with fail
  refine (HC2.out _ _ H.out).mono ?_
  rintro e3 w3 ⟨rfl, h⟩
  replace H := Lib.hid h
  clear h HC2
  go_wp2
  go_ret
  exact ⟨rfl, _, H.out.drop⟩

set_option maxHeartbeats 4000000 in
theorem does_else (h : Two G n a gd rr f f [] w) (x0 x1 : Int) (hx : x0 < 0 ∨ 6 < x0) :
    Calls Try.prog 13 #[ptr gd 0, ptr rr 0, opV x0 x1 false] w fun e w' => e = .returned (.bool true) ∧ ∃ f', Two G n a gd rr f' f' [] w' := by
  have H := Lib.hid (h.new #[.int .i64 x0, .int .i64 x1, .bool false] 40)
  clear h
  have b0 : (x0 == 0) = false := by simp; omega
  have b1 : (x0 == 1) = false := by simp; omega
  have b2 : (x0 == 2) = false := by simp; omega
  have b3 : (x0 == 3) = false := by simp; omega
  have b4 : (x0 == 4) = false := by simp; omega
  have b5 : (x0 == 5) = false := by simp; omega
  have b6 : (x0 == 6) = false := by simp; omega
  clear hx
  go_enter Try.func13, Try.ntmps13
  unfold opV
  obtain ⟨c0, c1, c2⟩ := cells3 (H.out.at (.head _))
  go_wp2
  go_ret
  exact ⟨rfl, _, H.out.drop⟩

set_option maxHeartbeats 4000000 in
theorem does_open_own (h : Two G n a gd rr f f [] w) (x0 x1 : Int) (hx : x0 = 0 ∨ x0 = 1) :
    Calls Try.prog 13 #[ptr gd 0, ptr rr 0, opV x0 x1 true] w fun e w' => e = .returned (.bool true) ∧ ∃ f', Two G n a gd rr f' f' [] w' := by
  have H := Lib.hid (h.new #[.int .i64 x0, .int .i64 x1, .bool true] 40)
  clear h
  rcases hx with rfl | rfl
  all_goals
    go_enter Try.func13, Try.ntmps13
    unfold opV
    obtain ⟨c0, c1, c2⟩ := cells3 (H.out.at (.head _))
    have HCU := Lib.hid (Current2 H.out)
    generalize cur f n = C at HCU
    go_wp2_with fail
    refine HCU.out.mono ?_
    rintro e1 w1 ⟨rfl, h, _⟩
    replace H := Lib.hid h
    clear h HCU c0 c1 c2
    obtain ⟨c0, c1, c2⟩ := cells3 (H.out.at (.head _))
    have HC1 := Lib.hid (Open1 H.out)
    have HC2 := Lib.hid (fun sd w (h : Two G n a gd rr (openS f n) f sd w) => Open2 h)
    generalize openR f n = Q at HC1 HC2
    obtain ⟨q1, q2⟩ := Q
    unfold LinesPkg.pairV at HC1
    unfold LinesRef.pairV at HC2
    dsimp only at HC1 HC2
    go_wp2_with fail
    refine HC1.out.mono ?_
    rintro e2 w2 ⟨rfl, h⟩
    replace H := Lib.hid h
    clear h HC1 c0 c1 c2
    go_wp2_with fail
    refine (HC2.out _ _ H.out).mono ?_
    rintro e3 w3 ⟨rfl, h⟩
    replace H := Lib.hid h
    clear h HC2
    go_wp2
    go_ret
    exact ⟨rfl, _, H.out.drop⟩

set_option maxHeartbeats 4000000 in
theorem does_close_own (h : Two G n a gd rr f f [] w) (x0 x1 : Int) (hx : x0 = 2) :
    Calls Try.prog 13 #[ptr gd 0, ptr rr 0, opV x0 x1 true] w fun e w' => e = .returned (.bool true) ∧ ∃ f', Two G n a gd rr f' f' [] w' := by
  have H := Lib.hid (h.new #[.int .i64 x0, .int .i64 x1, .bool true] 40)
  clear h
  subst hx
  go_enter Try.func13, Try.ntmps13
  unfold opV
  obtain ⟨c0, c1, c2⟩ := cells3 (H.out.at (.head _))
  have HCU := Lib.hid (Current2 H.out)
  generalize cur f n = C at HCU
  go_wp2_with fail
  refine HCU.out.mono ?_
  rintro e1 w1 ⟨rfl, h, _⟩
  replace H := Lib.hid h
  clear h HCU c0 c1 c2
  obtain ⟨c0, c1, c2⟩ := cells3 (H.out.at (.head _))
  have HC1 := Lib.hid (Close1 H.out)
  have HC2 := Lib.hid (fun sd w (h : Two G n a gd rr (closeS f n) f sd w) => Close2 h)
  generalize closeR f n = Q at HC1 HC2
  obtain ⟨q1, q2⟩ := Q
  unfold LinesPkg.pairV at HC1
  unfold LinesRef.pairV at HC2
  dsimp only at HC1 HC2
  go_wp2_with fail
  refine HC1.out.mono ?_
  rintro e2 w2 ⟨rfl, h⟩
  replace H := Lib.hid h
  clear h HC1 c0 c1 c2
  go_wp2_with fail
  refine (HC2.out _ _ H.out).mono ?_
  rintro e3 w3 ⟨rfl, h⟩
  replace H := Lib.hid h
  clear h HC2
  go_wp2
  go_ret
  exact ⟨rfl, _, H.out.drop⟩

set_option maxHeartbeats 4000000 in
theorem does_release_own (h : Two G n a gd rr f f [] w) (x0 x1 : Int) (hx : x0 = 3) :
    Calls Try.prog 13 #[ptr gd 0, ptr rr 0, opV x0 x1 true] w fun e w' => e = .returned (.bool true) ∧ ∃ f', Two G n a gd rr f' f' [] w' := by
  have H := Lib.hid (h.new #[.int .i64 x0, .int .i64 x1, .bool true] 40)
  clear h
  subst hx
  go_enter Try.func13, Try.ntmps13
  unfold opV
  obtain ⟨c0, c1, c2⟩ := cells3 (H.out.at (.head _))
  have HCU := Lib.hid (Current2 H.out)
  generalize cur f n = C at HCU
  go_wp2_with fail
  refine HCU.out.mono ?_
  rintro e1 w1 ⟨rfl, h, _⟩
  replace H := Lib.hid h
  clear h HCU c0 c1 c2
  obtain ⟨c0, c1, c2⟩ := cells3 (H.out.at (.head _))
  have HC1 := Lib.hid (Release1 H.out C)
  have HC2 := Lib.hid (fun sd w (h : Two G n a gd rr (doAt f n C 2 free) f sd w) => Release2 h C)
  generalize chg f n C 2 = Q at HC1 HC2
  go_wp2_with fail
  refine HC1.out.mono ?_
  rintro e2 w2 ⟨rfl, h⟩
  replace H := Lib.hid h
  clear h HC1 c0 c1 c2
  go_wp2_with fail
  refine (HC2.out _ _ H.out).mono ?_
  rintro e3 w3 ⟨rfl, h⟩
  replace H := Lib.hid h
  clear h HC2
  go_wp2
  go_ret
  exact ⟨rfl, _, H.out.drop⟩

set_option maxHeartbeats 4000000 in
theorem does_erased_own (h : Two G n a gd rr f f [] w) (x0 x1 : Int) (hx : x0 = 4) :
    Calls Try.prog 13 #[ptr gd 0, ptr rr 0, opV x0 x1 true] w fun e w' => e = .returned (.bool true) ∧ ∃ f', Two G n a gd rr f' f' [] w' := by
  have H := Lib.hid (h.new #[.int .i64 x0, .int .i64 x1, .bool true] 40)
  clear h
  subst hx
  go_enter Try.func13, Try.ntmps13
  unfold opV
  obtain ⟨c0, c1, c2⟩ := cells3 (H.out.at (.head _))
  have HCU := Lib.hid (Current2 H.out)
  generalize cur f n = C at HCU
  go_wp2_with fail
  refine HCU.out.mono ?_
  rintro e1 w1 ⟨rfl, h, _⟩
  replace H := Lib.hid h
  clear h HCU c0 c1 c2
  obtain ⟨c0, c1, c2⟩ := cells3 (H.out.at (.head _))
  have HC1 := Lib.hid (Erased1 H.out C)
  have HC2 := Lib.hid (fun sd w (h : Two G n a gd rr (doAt f n C 1 erase) f sd w) => Erased2 h C)
  generalize chg f n C 1 = Q at HC1 HC2
  go_wp2_with fail
  refine HC1.out.mono ?_
  rintro e2 w2 ⟨rfl, h⟩
  replace H := Lib.hid h
  clear h HC1 c0 c1 c2
  go_wp2_with fail
  refine (HC2.out _ _ H.out).mono ?_
  rintro e3 w3 ⟨rfl, h⟩
  replace H := Lib.hid h
  clear h HC2
  go_wp2
  go_ret
  exact ⟨rfl, _, H.out.drop⟩

set_option maxHeartbeats 4000000 in
theorem does_lose_own (h : Two G n a gd rr f f [] w) (x0 x1 : Int) (hx : x0 = 5) :
    Calls Try.prog 13 #[ptr gd 0, ptr rr 0, opV x0 x1 true] w fun e w' => e = .returned (.bool true) ∧ ∃ f', Two G n a gd rr f' f' [] w' := by
  have H := Lib.hid (h.new #[.int .i64 x0, .int .i64 x1, .bool true] 40)
  clear h
  subst hx
  go_enter Try.func13, Try.ntmps13
  unfold opV
  obtain ⟨c0, c1, c2⟩ := cells3 (H.out.at (.head _))
  have HCU := Lib.hid (Current2 H.out)
  generalize cur f n = C at HCU
  go_wp2_with fail
  refine HCU.out.mono ?_
  rintro e1 w1 ⟨rfl, h, _⟩
  replace H := Lib.hid h
  clear h HCU c0 c1 c2
  obtain ⟨c0, c1, c2⟩ := cells3 (H.out.at (.head _))
  have HC1 := Lib.hid (Lose1 H.out C)
  have HC2 := Lib.hid (fun sd w (h : Two G n a gd rr (loseS f n C) f sd w) => Lose2 h C)
  generalize loseE f n C = Q at HC1 HC2
  go_wp2_with fail
  refine HC1.out.mono ?_
  rintro e2 w2 ⟨rfl, h⟩
  replace H := Lib.hid h
  clear h HC1 c0 c1 c2
  go_wp2_with fail
  refine (HC2.out _ _ H.out).mono ?_
  rintro e3 w3 ⟨rfl, h⟩
  replace H := Lib.hid h
  clear h HC2
  go_wp2
  go_ret
  exact ⟨rfl, _, H.out.drop⟩

set_option maxHeartbeats 4000000 in
theorem does_use_own (h : Two G n a gd rr f f [] w) (x0 x1 : Int) (hx : x0 = 6) :
    Calls Try.prog 13 #[ptr gd 0, ptr rr 0, opV x0 x1 true] w fun e w' => e = .returned (.bool true) ∧ ∃ f', Two G n a gd rr f' f' [] w' := by
  have H := Lib.hid (h.new #[.int .i64 x0, .int .i64 x1, .bool true] 40)
  clear h
  subst hx
  go_enter Try.func13, Try.ntmps13
  unfold opV
  obtain ⟨c0, c1, c2⟩ := cells3 (H.out.at (.head _))
  have HCU := Lib.hid (Current2 H.out)
  generalize cur f n = C at HCU
  go_wp2_with fail
  refine HCU.out.mono ?_
  rintro e1 w1 ⟨rfl, h, _⟩
  replace H := Lib.hid h
  clear h HCU c0 c1 c2
  obtain ⟨c0, c1, c2⟩ := cells3 (H.out.at (.head _))
  have HC1 := Lib.hid (Use1 H.out C)
  have HC2 := Lib.hid (fun sd w (h : Two G n a gd rr (doAt f n C 0 shut) f sd w) => Use2 h C)
  generalize chg f n C 0 = Q at HC1 HC2
  go_wp2_with fail
  refine HC1.out.mono ?_
  rintro e2 w2 ⟨rfl, h⟩
  replace H := Lib.hid h
  clear h HC1 c0 c1 c2
  go_wp2_with fail
  refine (HC2.out _ _ H.out).mono ?_
  rintro e3 w3 ⟨rfl, h⟩
  replace H := Lib.hid h
  clear h HC2
  go_wp2
  go_ret
  exact ⟨rfl, _, H.out.drop⟩

set_option maxHeartbeats 4000000 in
theorem does_else_own (h : Two G n a gd rr f f [] w) (x0 x1 : Int) (hx : x0 < 0 ∨ 6 < x0) :
    Calls Try.prog 13 #[ptr gd 0, ptr rr 0, opV x0 x1 true] w fun e w' => e = .returned (.bool true) ∧ ∃ f', Two G n a gd rr f' f' [] w' := by
  have H := Lib.hid (h.new #[.int .i64 x0, .int .i64 x1, .bool true] 40)
  clear h
  have b0 : (x0 == 0) = false := by simp; omega
  have b1 : (x0 == 1) = false := by simp; omega
  have b2 : (x0 == 2) = false := by simp; omega
  have b3 : (x0 == 3) = false := by simp; omega
  have b4 : (x0 == 4) = false := by simp; omega
  have b5 : (x0 == 5) = false := by simp; omega
  have b6 : (x0 == 6) = false := by simp; omega
  clear hx
  go_enter Try.func13, Try.ntmps13
  unfold opV
  obtain ⟨c0, c1, c2⟩ := cells3 (H.out.at (.head _))
  have HCU := Lib.hid (Current2 H.out)
  generalize cur f n = C at HCU
  go_wp2_with fail
  refine HCU.out.mono ?_
  rintro e1 w1 ⟨rfl, h, _⟩
  replace H := Lib.hid h
  clear h HCU c0 c1 c2
  obtain ⟨c0, c1, c2⟩ := cells3 (H.out.at (.head _))
  go_wp2
  go_ret
  exact ⟨rfl, _, H.out.drop⟩

theorem does_any (h : Two G n a gd rr f f [] w) (x0 x1 : Int) (own : Bool) :
    Calls Try.prog 13 #[ptr gd 0, ptr rr 0, opV x0 x1 own] w fun e w' => e = .returned (.bool true) ∧ ∃ f', Two G n a gd rr f' f' [] w' := by
  have hx : (x0 = 0 ∨ x0 = 1) ∨ x0 = 2 ∨ x0 = 3 ∨ x0 = 4 ∨ x0 = 5 ∨ x0 = 6 ∨ (x0 < 0 ∨ 6 < x0) := by omega
  cases own
  · rcases hx with hx | hx | hx | hx | hx | hx | hx
    · exact does_open h x0 x1 hx
    · exact does_close h x0 x1 hx
    · exact does_release h x0 x1 hx
    · exact does_erased h x0 x1 hx
    · exact does_lose h x0 x1 hx
    · exact does_use h x0 x1 hx
    · exact does_else h x0 x1 hx
  · rcases hx with hx | hx | hx | hx | hx | hx | hx
    · exact does_open_own h x0 x1 hx
    · exact does_close_own h x0 x1 hx
    · exact does_release_own h x0 x1 hx
    · exact does_erased_own h x0 x1 hx
    · exact does_lose_own h x0 x1 hx
    · exact does_use_own h x0 x1 hx
    · exact does_else_own h x0 x1 hx
end
end Go.Proofs.Ytnnonkmkdjhacaa.LinesLaw
