/-
  What package lines does: at, the changes of a line, Use, Release, Erased, Lose. Printed by walks.py.
-/
import Derived.Test.YtnnonkmkdjhacaaLinesMem
import Derived.Test.YtnnonkmkdjhacaaGeomCounts
import Derived.Deep.RegionHeld3
namespace Go.Proofs.Ytnnonkmkdjhacaa.LinesPkg
open Go.RowKit Lines
open Nand (Shape upd upd_same upd_other)
set_option maxRecDepth 4000

abbrev Lp (G : Shape) (n : Nat) (w : World) (P : Pl) (f : St) : Prop := Ls 61 3 [] G n w P f

theorem shut_any (L o : Nat) (v : Value) (w : World) (hc : w.cell? ⟨L, o, none⟩ = some v) (hf : w.frozen? ⟨L, o, none⟩ = false) :
    Calls Try.prog 47 #[ptr L o] w fun e w' => e = .returned (.tuple #[]) ∧ w' = w.setCell ⟨L, o, none⟩ (.int .i64 2) := by
  go_enter Try.func47, Try.ntmps47
  go_wp2
  go_end0
  exact ⟨rfl, rfl⟩

theorem open_any (L o : Nat) (v : Value) (w : World) (hc : w.cell? ⟨L, o, none⟩ = some v) (hf : w.frozen? ⟨L, o, none⟩ = false) :
    Calls Try.prog 46 #[ptr L o] w fun e w' => e = .returned (.tuple #[]) ∧ w' = w.setCell ⟨L, o, none⟩ (.int .i64 1) := by
  go_enter Try.func46, Try.ntmps46
  go_wp2
  go_end0
  exact ⟨rfl, rfl⟩

theorem erase_any (L o : Nat) (x : Int) (w : World) (h0 : 0 ≤ x) (h1 : x ≤ 2147483647) (hc : w.cell? ⟨L, o + 1, none⟩ = some (.int .i64 x)) (hf : w.frozen? ⟨L, o + 1, none⟩ = false) :
    Calls Try.prog 48 #[ptr L o] w fun e w' => e = .returned (.tuple #[]) ∧ w' = w.setCell ⟨L, o + 1, none⟩ (.int .i64 (min (x + 1) 2147483647)) := by
  by_cases hx : 2147483647 < x + 1
  · have HM := Lib.hid (show min (x + 1) 2147483647 = 2147483647 by omega)
    go_enter Try.func48, Try.ntmps48
    go_wp2
    go_end0
    exact ⟨rfl, by rw [HM.out]⟩
  · have HM := Lib.hid (show min (x + 1) 2147483647 = x + 1 by omega)
    go_enter Try.func48, Try.ntmps48
    go_wp2
    go_end0
    exact ⟨rfl, by rw [HM.out]⟩

theorem free_any (L o : Nat) (v : Value) (x : Int) (w : World) (hc : w.cell? ⟨L, o, none⟩ = some v) (hf : w.frozen? ⟨L, o, none⟩ = false) (hg : w.cell? ⟨L, o + 2, none⟩ = some (.int .i64 x)) :
    Calls Try.prog 27 #[ptr L o] w fun e w' => e = .returned (.tuple #[]) ∧ w' = if x = 0 then (w.setCell ⟨L, o, none⟩ (.int .i64 0)).setCell ⟨L, o, none⟩ (.int .i64 3) else w.setCell ⟨L, o, none⟩ (.int .i64 0) := by
  by_cases hx : x = 0
  · subst hx
    go_enter Try.func27, Try.ntmps27
    go_wp2
    go_end0
    exact ⟨rfl, rfl⟩
  · rw [if_neg hx]
    go_enter Try.func27, Try.ntmps27
    go_wp2
    go_end0
    exact ⟨rfl, rfl⟩

section
variable {G : Shape} {n : Nat} {w w' : World} {P : Pl} {f : St}

theorem at_in (h : Lp G n w P f) (i : Nat) (hi : i < n) :
    Calls Try.prog 42 #[ptr P.g 0, .int .i64 (i : Int)] w fun e w' => e = .returned (ptr P.L (i * 3)) ∧ w' = w := by
  obtain ⟨_, _, _, _, _, c5⟩ := h.cells
  have hn := h.n1
  clear h
  have h1 : (i : Int) < n := by omega
  go_enter Try.func42, Try.ntmps42
  go_wp2
  go_ret
  exact ⟨rfl, rfl⟩

theorem at_out (h : Lp G n w P f) (line : Int) (hi : ¬ (0 ≤ line ∧ line < n)) :
    Calls Try.prog 42 #[ptr P.g 0, .int .i64 line] w fun e w' => e = .returned (.pointer none) ∧ w' = w := by
  obtain ⟨_, _, _, _, _, c5⟩ := h.cells
  have hn := h.n1
  clear h
  by_cases h0 : line < 0
  · clear hi
    go_enter Try.func42, Try.ntmps42
    go_wp2
    go_ret
    exact ⟨rfl, rfl⟩
  · have h1 : ¬ line < n := by omega
    clear hi
    go_enter Try.func42, Try.ntmps42
    go_wp2
    go_ret
    exact ⟨rfl, rfl⟩

theorem change_out (h : Lp G n w P f) (line s : Int) (V : Value) (hi : ¬ (0 ≤ line ∧ line < n)) :
    Calls Try.prog 45 #[ptr P.g 0, .int .i64 line, .int .i64 s, V] w fun e w' => e = .returned (.int .i64 2) ∧ w' = w := by
  have HA := Lib.hid (at_out h line hi)
  clear h hi
  go_enter Try.func45, Try.ntmps45
  go_wp2_with fail
  refine HA.out.mono ?_
  rintro e w2 ⟨rfl, hw⟩; subst w2
  go_wp2
  go_ret
  exact ⟨rfl, rfl⟩

theorem change_state (h : Lp G n w P f) (i : Nat) (hi : i < n) (s : Int) (V : Value) (hs : (f i).st ≠ s) :
    Calls Try.prog 45 #[ptr P.g 0, .int .i64 (i : Int), .int .i64 s, V] w fun e w' => e = .returned (.int .i64 13) ∧ w' = w := by
  have HA := Lib.hid (at_in h i hi)
  obtain ⟨c0, _⟩ := h.at hi
  clear h
  generalize (f i).st = t at *
  go_enter Try.func45, Try.ntmps45
  go_wp2_with fail
  refine HA.out.mono ?_
  rintro e w2 ⟨rfl, hw⟩; subst w2
  go_wp2
  go_ret
  exact ⟨rfl, rfl⟩

theorem change_shut (h : Lp G n w P f) (i : Nat) (hi : i < n) (s : Int) (hs : (f i).st = s) :
    Calls Try.prog 45 #[ptr P.g 0, .int .i64 (i : Int), .int .i64 s, .func (.func 47) #[] #[]] w fun e w' => e = .returned (.int .i64 0) ∧ Lp G n w' P (upd f i (Lines.shut (f i))) ∧ w.grownBy w' (some P.L) := by
  have HA := Lib.hid (at_in h i hi)
  have HC : Hid (Calls Try.prog 47 #[ptr P.L (i * 3)] w fun e w' => e = .returned (.tuple #[]) ∧ Lp G n w' P (upd f i (Lines.shut (f i))) ∧ w.grownBy w' (some P.L)) := Lib.hid (by
    obtain ⟨c0, _, _, f0, _⟩ := h.at hi
    refine (shut_any P.L (i * 3) _ w c0 f0).mono ?_
    rintro e w2 ⟨rfl, rfl⟩
    exact ⟨rfl, h.set1 hi (inv_shut h.inv hi) (show 0 < 3 by omega) rfl, grown_setCell _ _ _⟩)
  obtain ⟨c0, _⟩ := h.at hi
  rw [hs] at c0
  clear h hs
  go_enter Try.func45, Try.ntmps45
  go_wp2_with fail
  refine HA.out.mono ?_
  rintro e w2 ⟨rfl, hw⟩; subst w2
  go_wp2_with fail
  refine HC.out.mono ?_
  rintro e w2 ⟨rfl, hl, hg⟩
  have HL := Lib.hid hl
  have HG := Lib.hid hg
  clear hl hg
  go_wp2
  go_ret
  exact ⟨rfl, HL.out, HG.out⟩

theorem change_opn (h : Lp G n w P f) (i : Nat) (hi : i < n) (s : Int) (hs : (f i).st = s) (hc : cur f n = -1) :
    Calls Try.prog 45 #[ptr P.g 0, .int .i64 (i : Int), .int .i64 s, .func (.func 46) #[] #[]] w fun e w' => e = .returned (.int .i64 0) ∧ Lp G n w' P (upd f i (Lines.opn (f i))) ∧ w.grownBy w' (some P.L) := by
  have HA := Lib.hid (at_in h i hi)
  have HC : Hid (Calls Try.prog 46 #[ptr P.L (i * 3)] w fun e w' => e = .returned (.tuple #[]) ∧ Lp G n w' P (upd f i (Lines.opn (f i))) ∧ w.grownBy w' (some P.L)) := Lib.hid (by
    obtain ⟨c0, _, _, f0, _⟩ := h.at hi
    refine (open_any P.L (i * 3) _ w c0 f0).mono ?_
    rintro e w2 ⟨rfl, rfl⟩
    exact ⟨rfl, h.set1 hi (inv_open h.inv hi hc) (show 0 < 3 by omega) rfl, grown_setCell _ _ _⟩)
  obtain ⟨c0, _⟩ := h.at hi
  rw [hs] at c0
  clear h hs hc
  go_enter Try.func45, Try.ntmps45
  go_wp2_with fail
  refine HA.out.mono ?_
  rintro e w2 ⟨rfl, hw⟩; subst w2
  go_wp2_with fail
  refine HC.out.mono ?_
  rintro e w2 ⟨rfl, hl, hg⟩
  have HL := Lib.hid hl
  have HG := Lib.hid hg
  clear hl hg
  go_wp2
  go_ret
  exact ⟨rfl, HL.out, HG.out⟩

theorem change_erase (h : Lp G n w P f) (i : Nat) (hi : i < n) (s : Int) (hs : (f i).st = s) :
    Calls Try.prog 45 #[ptr P.g 0, .int .i64 (i : Int), .int .i64 s, .func (.func 48) #[] #[]] w fun e w' => e = .returned (.int .i64 0) ∧ Lp G n w' P (upd f i (Lines.erase (f i))) ∧ w.grownBy w' (some P.L) := by
  have HA := Lib.hid (at_in h i hi)
  have HC : Hid (Calls Try.prog 48 #[ptr P.L (i * 3)] w fun e w' => e = .returned (.tuple #[]) ∧ Lp G n w' P (upd f i (Lines.erase (f i))) ∧ w.grownBy w' (some P.L)) := Lib.hid (by
    obtain ⟨_, c1, _, _, f1, _⟩ := h.at hi
    refine (erase_any P.L (i * 3) _ w (h.inv.wr i hi).1 (h.inv.wr i hi).2 c1 f1).mono ?_
    rintro e w2 ⟨rfl, rfl⟩
    exact ⟨rfl, h.set1 hi (inv_erase h.inv hi) (show 1 < 3 by omega) rfl, grown_setCell _ _ _⟩)
  obtain ⟨c0, _⟩ := h.at hi
  rw [hs] at c0
  clear h hs
  go_enter Try.func45, Try.ntmps45
  go_wp2_with fail
  refine HA.out.mono ?_
  rintro e w2 ⟨rfl, hw⟩; subst w2
  go_wp2_with fail
  refine HC.out.mono ?_
  rintro e w2 ⟨rfl, hl, hg⟩
  have HL := Lib.hid hl
  have HG := Lib.hid hg
  clear hl hg
  go_wp2
  go_ret
  exact ⟨rfl, HL.out, HG.out⟩

theorem change_free (h : Lp G n w P f) (i : Nat) (hi : i < n) (s : Int) (hs : (f i).st = s) :
    Calls Try.prog 45 #[ptr P.g 0, .int .i64 (i : Int), .int .i64 s, .func (.func 27) #[] #[]] w fun e w' => e = .returned (.int .i64 0) ∧ Lp G n w' P (upd f i (Lines.free (f i))) ∧ w.grownBy w' (some P.L) := by
  have HA := Lib.hid (at_in h i hi)
  have HC : Hid (Calls Try.prog 27 #[ptr P.L (i * 3)] w fun e w' => e = .returned (.tuple #[]) ∧ Lp G n w' P (upd f i (Lines.free (f i))) ∧ w.grownBy w' (some P.L)) := Lib.hid (by
    obtain ⟨c0, _, c2, f0, _, _⟩ := h.at hi
    refine (free_any P.L (i * 3) _ _ w c0 f0 c2).mono ?_
    rintro e w2 ⟨rfl, hw⟩
    by_cases hx : (f i).gd = 0
    · rw [if_pos hx] at hw
      subst hw
      exact ⟨rfl, h.set2 hi (inv_free h.inv hi) (show 0 < 3 by omega) (show 0 < 3 by omega) (by unfold Lines.free freeSt; rw [if_pos hx]; rfl), grown_trans (grown_setCell _ _ _) (grown_setCell _ _ _)⟩
    · rw [if_neg hx] at hw
      subst hw
      exact ⟨rfl, h.set1 hi (inv_free h.inv hi) (show 0 < 3 by omega) (by unfold Lines.free freeSt; rw [if_neg hx]; rfl), grown_setCell _ _ _⟩)
  obtain ⟨c0, _⟩ := h.at hi
  rw [hs] at c0
  clear h hs
  go_enter Try.func45, Try.ntmps45
  go_wp2_with fail
  refine HA.out.mono ?_
  rintro e w2 ⟨rfl, hw⟩; subst w2
  go_wp2_with fail
  refine HC.out.mono ?_
  rintro e w2 ⟨rfl, hl, hg⟩
  have HL := Lib.hid hl
  have HG := Lib.hid hg
  clear hl hg
  go_wp2
  go_ret
  exact ⟨rfl, HL.out, HG.out⟩

theorem chg_shut0 (h : Lp G n w P f) (line : Int) :
    Calls Try.prog 45 #[ptr P.g 0, .int .i64 line, .int .i64 0, .func (.func 47) #[] #[]] w fun e w' => e = .returned (.int .i64 (chg f n line 0)) ∧ Lp G n w' P (doAt f n line 0 Lines.shut) ∧ w.grownBy w' (some P.L) := by
  by_cases hl : 0 ≤ line ∧ line < n
  · obtain ⟨i, rfl⟩ := Int.eq_ofNat_of_zero_le hl.1
    have hi : i < n := by omega
    by_cases hs : (f i).st = 0
    · have e1 : chg f n (i : Int) 0 = 0 := by unfold chg; rw [if_pos hl, Int.toNat_natCast, if_pos hs]
      unfold doAt
      rw [e1, if_pos rfl, Int.toNat_natCast]
      exact change_shut h i hi 0 hs
    · have e1 : chg f n (i : Int) 0 = 13 := by unfold chg; rw [if_pos hl, Int.toNat_natCast, if_neg hs]
      unfold doAt
      rw [e1, if_neg (by omega)]
      exact (change_state h i hi 0 _ hs).mono fun e w' hh => ⟨hh.1, by rw [hh.2]; exact h, by rw [hh.2]; exact World.grownBy.refl _ _⟩
  · have e1 : chg f n line 0 = 2 := by unfold chg; rw [if_neg hl]
    unfold doAt
    rw [e1, if_neg (by omega)]
    exact (change_out h line 0 _ hl).mono fun e w' hh => ⟨hh.1, by rw [hh.2]; exact h, by rw [hh.2]; exact World.grownBy.refl _ _⟩

theorem Use_any (h : Lp G n w P f) (line : Int) :
    Calls Try.prog 22 #[ptr P.g 0, .int .i64 line] w fun e w' => e = .returned (.int .i64 (chg f n line 0)) ∧ Lp G n w' P (doAt f n line 0 Lines.shut) ∧ w.grownBy w' (some P.L) := by
  have HC := Lib.hid (chg_shut0 h line)
  generalize chg f n line 0 = q at *
  clear h
  go_enter Try.func22, Try.ntmps22
  go_wp2_with fail
  refine HC.out.mono ?_
  rintro e w2 ⟨rfl, hl, hg⟩
  have HL := Lib.hid hl
  have HG := Lib.hid hg
  clear hl hg
  go_wp2
  go_ret
  exact ⟨rfl, HL.out, HG.out⟩

theorem chg_free2 (h : Lp G n w P f) (line : Int) :
    Calls Try.prog 45 #[ptr P.g 0, .int .i64 line, .int .i64 2, .func (.func 27) #[] #[]] w fun e w' => e = .returned (.int .i64 (chg f n line 2)) ∧ Lp G n w' P (doAt f n line 2 Lines.free) ∧ w.grownBy w' (some P.L) := by
  by_cases hl : 0 ≤ line ∧ line < n
  · obtain ⟨i, rfl⟩ := Int.eq_ofNat_of_zero_le hl.1
    have hi : i < n := by omega
    by_cases hs : (f i).st = 2
    · have e1 : chg f n (i : Int) 2 = 0 := by unfold chg; rw [if_pos hl, Int.toNat_natCast, if_pos hs]
      unfold doAt
      rw [e1, if_pos rfl, Int.toNat_natCast]
      exact change_free h i hi 2 hs
    · have e1 : chg f n (i : Int) 2 = 13 := by unfold chg; rw [if_pos hl, Int.toNat_natCast, if_neg hs]
      unfold doAt
      rw [e1, if_neg (by omega)]
      exact (change_state h i hi 2 _ hs).mono fun e w' hh => ⟨hh.1, by rw [hh.2]; exact h, by rw [hh.2]; exact World.grownBy.refl _ _⟩
  · have e1 : chg f n line 2 = 2 := by unfold chg; rw [if_neg hl]
    unfold doAt
    rw [e1, if_neg (by omega)]
    exact (change_out h line 2 _ hl).mono fun e w' hh => ⟨hh.1, by rw [hh.2]; exact h, by rw [hh.2]; exact World.grownBy.refl _ _⟩

theorem Release_any (h : Lp G n w P f) (line : Int) :
    Calls Try.prog 18 #[ptr P.g 0, .int .i64 line] w fun e w' => e = .returned (.int .i64 (chg f n line 2)) ∧ Lp G n w' P (doAt f n line 2 Lines.free) ∧ w.grownBy w' (some P.L) := by
  have HC := Lib.hid (chg_free2 h line)
  generalize chg f n line 2 = q at *
  clear h
  go_enter Try.func18, Try.ntmps18
  go_wp2_with fail
  refine HC.out.mono ?_
  rintro e w2 ⟨rfl, hl, hg⟩
  have HL := Lib.hid hl
  have HG := Lib.hid hg
  clear hl hg
  go_wp2
  go_ret
  exact ⟨rfl, HL.out, HG.out⟩

theorem chg_erase1 (h : Lp G n w P f) (line : Int) :
    Calls Try.prog 45 #[ptr P.g 0, .int .i64 line, .int .i64 1, .func (.func 48) #[] #[]] w fun e w' => e = .returned (.int .i64 (chg f n line 1)) ∧ Lp G n w' P (doAt f n line 1 Lines.erase) ∧ w.grownBy w' (some P.L) := by
  by_cases hl : 0 ≤ line ∧ line < n
  · obtain ⟨i, rfl⟩ := Int.eq_ofNat_of_zero_le hl.1
    have hi : i < n := by omega
    by_cases hs : (f i).st = 1
    · have e1 : chg f n (i : Int) 1 = 0 := by unfold chg; rw [if_pos hl, Int.toNat_natCast, if_pos hs]
      unfold doAt
      rw [e1, if_pos rfl, Int.toNat_natCast]
      exact change_erase h i hi 1 hs
    · have e1 : chg f n (i : Int) 1 = 13 := by unfold chg; rw [if_pos hl, Int.toNat_natCast, if_neg hs]
      unfold doAt
      rw [e1, if_neg (by omega)]
      exact (change_state h i hi 1 _ hs).mono fun e w' hh => ⟨hh.1, by rw [hh.2]; exact h, by rw [hh.2]; exact World.grownBy.refl _ _⟩
  · have e1 : chg f n line 1 = 2 := by unfold chg; rw [if_neg hl]
    unfold doAt
    rw [e1, if_neg (by omega)]
    exact (change_out h line 1 _ hl).mono fun e w' hh => ⟨hh.1, by rw [hh.2]; exact h, by rw [hh.2]; exact World.grownBy.refl _ _⟩

theorem Erased_any (h : Lp G n w P f) (line : Int) :
    Calls Try.prog 19 #[ptr P.g 0, .int .i64 line] w fun e w' => e = .returned (.int .i64 (chg f n line 1)) ∧ Lp G n w' P (doAt f n line 1 Lines.erase) ∧ w.grownBy w' (some P.L) := by
  have HC := Lib.hid (chg_erase1 h line)
  generalize chg f n line 1 = q at *
  clear h
  go_enter Try.func19, Try.ntmps19
  go_wp2_with fail
  refine HC.out.mono ?_
  rintro e w2 ⟨rfl, hl, hg⟩
  have HL := Lib.hid hl
  have HG := Lib.hid hg
  clear hl hg
  go_wp2
  go_ret
  exact ⟨rfl, HL.out, HG.out⟩

set_option maxHeartbeats 1000000 in
theorem Lose_any (h : Lp G n w P f) (line : Int) :
    Calls Try.prog 21 #[ptr P.g 0, .int .i64 line] w fun e w' => e = .returned (.int .i64 (loseE f n line)) ∧ Lp G n w' P (loseS f n line) ∧ w.grownBy w' (some P.L) := by
  by_cases hl : 0 ≤ line ∧ line < n
  rotate_left
  · have e1 : loseE f n line = 2 := by unfold loseE; rw [if_neg hl]
    unfold loseS
    rw [e1, if_neg (by omega)]
    have HA := Lib.hid (at_out h line hl)
    have HH := Lib.hid h
    clear h hl e1
    go_enter Try.func21, Try.ntmps21
    go_wp2_with fail
    refine HA.out.mono ?_
    rintro e w2 ⟨rfl, hw⟩; subst w2
    go_wp2
    go_ret
    exact ⟨rfl, HH.out, World.grownBy.refl _ _⟩
  obtain ⟨i, rfl⟩ := Int.eq_ofNat_of_zero_le hl.1
  have hi : i < n := by omega
  have HA := Lib.hid (at_in h i hi)
  obtain ⟨c0, _, c2, f0, _, f2⟩ := h.at hi
  by_cases hg : (f i).gd = 0
  · have e1 : loseE f n (i : Int) = 13 := by unfold loseE; rw [if_pos hl, Int.toNat_natCast, if_pos hg]
    unfold loseS
    rw [e1, if_neg (by omega)]
    rw [hg] at c2
    have HH := Lib.hid h
    clear h hl e1 hg
    go_enter Try.func21, Try.ntmps21
    go_wp2_with fail
    refine HA.out.mono ?_
    rintro e w2 ⟨rfl, hw⟩; subst w2
    go_wp2
    go_ret
    exact ⟨rfl, HH.out, World.grownBy.refl _ _⟩
  have e1 : loseE f n (i : Int) = 0 := by unfold loseE; rw [if_pos hl, Int.toNat_natCast, if_neg hg]
  unfold loseS
  rw [e1, if_pos rfl, Int.toNat_natCast]
  have hgd := h.inv.gd i hi
  have hu := h.ok.u1
  have HI := Lib.hid (inv_lose h.inv hi hg)
  have HH := Lib.hid h
  obtain ⟨x, hx⟩ : ∃ x, x = f i := ⟨_, rfl⟩
  obtain ⟨s, hs⟩ : ∃ s, s = x.st := ⟨_, rfl⟩
  obtain ⟨z, hz⟩ : ∃ z, z = x.gd := ⟨_, rfl⟩
  rw [← hx] at c0 c2 hgd hg
  rw [← hs] at c0
  rw [← hz] at c2 hgd hg
  have hz1 : z ≤ 8 := by omega
  have hz0 : 0 ≤ z := hgd.1
  by_cases h0 : s = 0
  · have HC : Hid (Calls Try.prog 27 #[ptr P.L (i * 3)] (w.setCell ⟨P.L, i * 3 + 2, none⟩ (.int .i64 (z - 1))) fun e w' => e = .returned (.tuple #[]) ∧ Lp G n w' P (upd f i (lose (f i))) ∧ w.grownBy w' (some P.L)) := Lib.hid (by
      have hcc : (w.setCell ⟨P.L, i * 3 + 2, none⟩ (.int .i64 (z - 1))).cell? ⟨P.L, i * 3, none⟩ = some (.int .i64 s) := (World.cell?_setCell_other w _ _ _ (fun e => by injection e with _ e; omega)).trans c0
      refine (free_any P.L (i * 3) (.int .i64 s) (z - 1) _ hcc (by rw [World.frozen?_setCell]; exact f0) (World.cell?_setCell_same _ _ _ c2)).mono ?_
      rintro e w2 ⟨rfl, hw⟩
      have hI := HI.out
      have hr : lose (f i) = ⟨freeSt (z - 1), x.wr, z - 1⟩ := by unfold lose; rw [← hx, ← hs, ← hz, if_pos h0]
      by_cases hq : z - 1 = 0
      · rw [if_pos hq] at hw
        subst hw
        rw [hr] at hI ⊢
        have hf3 : freeSt (z - 1) = 3 := by unfold freeSt; rw [if_pos hq]
        rw [hf3] at hI ⊢
        refine ⟨rfl, h.put hI (((h.tab.set hi (show 2 < 3 by omega) (.int .i64 (z - 1))).set hi (show 0 < 3 by omega) (.int .i64 0)).set hi (show 0 < 3 by omega) (.int .i64 3) |>.congr fun k _ => ?_) (grown_trans (grown_trans (grown_setCell _ _ _) (grown_setCell _ _ _)) (grown_setCell _ _ _)), grown_trans (grown_trans (grown_setCell _ _ _) (grown_setCell _ _ _)) (grown_setCell _ _ _)⟩
        by_cases e : k = i
        · simp [e, lnL, ← hx]
        · simp [e]
      · rw [if_neg hq] at hw
        subst hw
        rw [hr] at hI ⊢
        have hf3 : freeSt (z - 1) = 0 := by unfold freeSt; rw [if_neg hq]
        rw [hf3] at hI ⊢
        exact ⟨rfl, h.set2 hi hI (show 2 < 3 by omega) (show 0 < 3 by omega) (by simp [lnL, ← hx]), grown_trans (grown_setCell _ _ _) (grown_setCell _ _ _)⟩)
    subst h0
    clear h hl e1 hs hz hx hgd HI
    go_enter Try.func21, Try.ntmps21
    go_wp2_with fail
    refine HA.out.mono ?_
    rintro e w2 ⟨rfl, hw⟩; subst w2
    go_wp2_with fail
    refine HC.out.mono ?_
    rintro e w2 ⟨rfl, hl, hg⟩
    have HL := Lib.hid hl
    have HG := Lib.hid hg
    clear hl hg
    go_wp2
    go_ret
    exact ⟨rfl, HL.out, HG.out⟩
  · have HE : Hid (Lp G n (w.setCell ⟨P.L, i * 3 + 2, none⟩ (.int .i64 (z - 1))) P (upd f i (lose (f i)))) := Lib.hid (by
      have hr : lose (f i) = ⟨s, x.wr, z - 1⟩ := by unfold lose; rw [← hx, ← hs, ← hz, if_neg h0]
      have hI := HI.out
      rw [hr] at hI ⊢
      exact h.set1 hi hI (show 2 < 3 by omega) (by simp [lnL, ← hx, hs]))
    clear h hl e1 hs hz hx hgd HI
    go_enter Try.func21, Try.ntmps21
    go_wp2_with fail
    refine HA.out.mono ?_
    rintro e w2 ⟨rfl, hw⟩; subst w2
    go_wp2
    go_ret
    exact ⟨rfl, HE.out, grown_setCell _ _ _⟩
end

end Go.Proofs.Ytnnonkmkdjhacaa.LinesPkg
