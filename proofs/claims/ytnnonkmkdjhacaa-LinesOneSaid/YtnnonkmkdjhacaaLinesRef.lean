/-
  What the document's lines of layer 12 do: free, Room, is, Use, Release, Erased, Lose, Current, Count, Capacity, Open, Close.
-/
import Derived.Test.YtnnonkmkdjhacaaLinesMem
import Derived.Test.YtnnonkmkdjhacaaGeomRef
import Derived.Deep.RegionHeld3
namespace Go.Proofs.Ytnnonkmkdjhacaa.LinesRef
open Go.RowKit Lines LinesPkg
open Nand (Shape upd upd_same upd_other)
set_option maxRecDepth 4000

abbrev Rf (G : Shape) (n : Nat) (w : World) (P : Pl) (f : St) : Prop := Ls 65 5 [.int .i64 0, .int .i64 0] G n w P f

theorem free_any (gd : Int) (w : World) : Calls Try.prog 30 #[.int .i64 gd] w fun e w' => e = .returned (.int .i64 (freeSt gd)) ∧ w' = w := by
  unfold freeSt
  by_cases h : gd = 0
  · rw [if_pos h]
    subst h
    go_enter Try.func30, Try.ntmps30
    go_wp2
    go_ret
    exact ⟨rfl, rfl⟩
  · rw [if_neg h]
    go_enter Try.func30, Try.ntmps30
    go_wp2
    go_ret
    exact ⟨rfl, rfl⟩

theorem Room_any {G : Shape} (hG : G.Ok) (gd : Int) (h0 : 0 ≤ gd) (h1 : gd ≤ G.U) (w : World) :
    Calls Try.prog 55 #[.agg #[.int .i64 G.c, .int .i64 G.l, .int .i64 G.k, .int .i64 G.p, .int .i64 G.s], .int .i64 gd] w fun e w' => e = .returned (.int .i64 (room G gd)) ∧ Below w.heap.size w w' := by
  have HB := Lib.hid ((Below.refl w.heap.size w).alloc (Nat.le_refl _) (.cells #[.int .i64 G.c, .int .i64 G.l, .int .i64 G.k, .int .i64 G.p, .int .i64 G.s] 23))
  obtain ⟨r0, r1, r2⟩ := room_bd hG h0 h1
  unfold room at *
  by_cases hs : gd = 0
  · rw [if_pos hs]
    clear r0 r1 r2 h0 h1
    subst hs
    go_enter Try.func55, Try.ntmps55
    go_wp2
    go_ret
    exact ⟨rfl, HB.out⟩
  · rw [if_neg hs] at r0 r1 ⊢
    obtain ⟨r2, r3⟩ := r2 hs
    have h2 : ¬ gd < 1 := by omega
    have e1 : wrap64 (gd * G.p) = gd * G.p := wrap_is (by omega) (by omega)
    have E3 := Lib.hid (show wrap64 ((gd * G.p - 1) * G.s) = (gd * G.p - 1) * G.s from wrap_is (by omega) (by omega))
    clear r0 r1 hs h0 h1
    generalize G.p = p at *
    generalize G.s = s at *
    go_enter Try.func55, Try.ntmps55
    go_wp2
    go_ret
    exact ⟨congrArg (fun z => Ending.returned (.int .i64 z)) E3.out, HB.out⟩

section
variable {G : Shape} {n : Nat} {w w' : World} {P : Pl} {f : St}

theorem is_any (h : Rf G n w P f) (line s : Int) : Calls Try.prog 56 #[ptr P.g 0, .int .i64 line, .int .i64 s] w fun e w' => e = .returned (.int .i64 (chg f n line s)) ∧ w' = w := by
  obtain ⟨_, _, _, _, _, c5⟩ := h.cells
  have hn := h.n1
  unfold chg
  by_cases hl : 0 ≤ line ∧ line < n
  · rw [if_pos hl]
    obtain ⟨i, rfl⟩ := Int.eq_ofNat_of_zero_le hl.1
    have hi : i < n := by omega
    obtain ⟨c0, _⟩ := h.at hi
    rw [Int.toNat_natCast]
    have h1 : (i : Int) < n := hl.2
    clear h hl
    by_cases hs : (f i).st = s
    · rw [if_pos hs]
      rw [hs] at c0
      clear hs
      go_enter Try.func56, Try.ntmps56
      go_wp2
      go_ret
      exact ⟨rfl, rfl⟩
    · rw [if_neg hs]
      generalize (f i).st = t at *
      go_enter Try.func56, Try.ntmps56
      go_wp2
      go_ret
      exact ⟨rfl, rfl⟩
  · rw [if_neg hl]
    clear h
    by_cases h0 : line < 0
    · clear hl
      go_enter Try.func56, Try.ntmps56
      go_wp2
      go_ret
      exact ⟨rfl, rfl⟩
    · have h1 : ¬ line < n := by omega
      clear hl
      go_enter Try.func56, Try.ntmps56
      go_wp2
      go_ret
      exact ⟨rfl, rfl⟩

/-- A call that is refused. -/
theorem Use_any (h : Rf G n w P f) (line : Int) :
    Calls Try.prog 40 #[ptr P.g 0, .int .i64 line] w fun e w' => e = .returned (.int .i64 (chg f n line 0)) ∧ Rf G n w' P (doAt f n line 0 shut) ∧ w.grownBy w' (some P.L) := by
  have HI := Lib.hid (is_any h line 0)
  have H := Lib.hid h
  obtain ⟨_, _, _, _, _, c5⟩ := h.cells
  have hn := h.n1
  unfold doAt
  by_cases h0 : chg f n line 0 = 0
  · rw [if_pos h0]
    obtain ⟨i, hi, rfl, hs⟩ := chg_ok h0
    rw [h0] at HI ⊢
    rw [Int.toNat_natCast]
    obtain ⟨c0, _, _, f0, _⟩ := h.at hi
    have HE : Hid (Rf G n (w.setCell ⟨P.L, i * 5, none⟩ (.int .i64 2)) P (upd f i (shut (f i)))) := Lib.hid (h.set1 hi (inv_shut h.inv hi) (show 0 < 3 by omega) rfl)
    have h1 : (i : Int) < n := by omega
    clear h h0 hs
    go_enter Try.func40, Try.ntmps40
    go_wp2_with fail
    refine HI.out.mono ?_
    rintro e w2 ⟨rfl, hw⟩; subst w2
    go_wp2
    go_ret
    exact ⟨rfl, HE.out, grown_setCell _ _ _⟩
  · rw [if_neg h0]
    generalize chg f n line 0 = q at *
    clear h
    go_enter Try.func40, Try.ntmps40
    go_wp2_with fail
    refine HI.out.mono ?_
    rintro e w2 ⟨rfl, hw⟩; subst w2
    go_wp2
    go_ret
    exact ⟨rfl, H.out, World.grownBy.refl _ _⟩

theorem Erased_any (h : Rf G n w P f) (line : Int) :
    Calls Try.prog 38 #[ptr P.g 0, .int .i64 line] w fun e w' => e = .returned (.int .i64 (chg f n line 1)) ∧ Rf G n w' P (doAt f n line 1 erase) ∧ w.grownBy w' (some P.L) := by
  have HI := Lib.hid (is_any h line 1)
  have H := Lib.hid h
  obtain ⟨_, _, _, _, _, c5⟩ := h.cells
  have hn := h.n1
  unfold doAt
  by_cases h0 : chg f n line 1 = 0
  · rw [if_pos h0]
    obtain ⟨i, hi, rfl, hs⟩ := chg_ok h0
    rw [h0] at HI ⊢
    rw [Int.toNat_natCast]
    obtain ⟨_, c1, _, _, f1, _⟩ := h.at hi
    have h1 : (i : Int) < n := by omega
    have hwr := h.inv.wr i hi
    have HINV := Lib.hid (inv_erase h.inv hi)
    by_cases hx : (f i).wr < 2147483647
    · have HE : Hid (Rf G n (w.setCell ⟨P.L, i * 5 + 1, none⟩ (.int .i64 ((f i).wr + 1))) P (upd f i (erase (f i)))) := Lib.hid (by
        refine h.set1 hi HINV.out (show 1 < 3 by omega) ?_
        unfold erase
        rw [show min ((f i).wr + 1) 2147483647 = (f i).wr + 1 by omega]
        rfl)
      clear h h0 hs HINV
      generalize (f i).wr = x at *
      go_enter Try.func38, Try.ntmps38
      go_wp2_with fail
      refine HI.out.mono ?_
      rintro e w2 ⟨rfl, hw⟩; subst w2
      go_wp2
      go_ret
      exact ⟨rfl, HE.out, grown_setCell _ _ _⟩
    · have HE : Hid (Rf G n w P (upd f i (erase (f i)))) := Lib.hid (by
        have e : erase (f i) = f i := by
          unfold erase
          rw [show min ((f i).wr + 1) 2147483647 = (f i).wr by omega]
        rw [e]
        have e2 : upd f i (f i) = f := by funext j; rw [upd_at]; split <;> simp_all
        rw [e2]
        exact h)
      clear h h0 hs HINV
      generalize (f i).wr = x at *
      go_enter Try.func38, Try.ntmps38
      go_wp2_with fail
      refine HI.out.mono ?_
      rintro e w2 ⟨rfl, hw⟩; subst w2
      go_wp2
      go_ret
      exact ⟨rfl, HE.out, World.grownBy.refl _ _⟩
  · rw [if_neg h0]
    generalize chg f n line 1 = q at *
    clear h
    go_enter Try.func38, Try.ntmps38
    go_wp2_with fail
    refine HI.out.mono ?_
    rintro e w2 ⟨rfl, hw⟩; subst w2
    go_wp2
    go_ret
    exact ⟨rfl, H.out, World.grownBy.refl _ _⟩

theorem Lose_any (h : Rf G n w P f) (line : Int) :
    Calls Try.prog 39 #[ptr P.g 0, .int .i64 line] w fun e w' => e = .returned (.int .i64 (loseE f n line)) ∧ Rf G n w' P (loseS f n line) ∧ w.grownBy w' (some P.L) := by
  have H := Lib.hid h
  obtain ⟨_, _, _, _, _, c5⟩ := h.cells
  have hn := h.n1
  by_cases hl : 0 ≤ line ∧ line < n
  rotate_left
  · have e1 : loseE f n line = 2 := by unfold loseE; rw [if_neg hl]
    unfold loseS
    rw [e1, if_neg (by omega)]
    clear h e1
    by_cases h0 : line < 0
    · clear hl
      go_enter Try.func39, Try.ntmps39
      go_wp2
      go_ret
      exact ⟨rfl, H.out, World.grownBy.refl _ _⟩
    · have h1 : ¬ line < n := by omega
      clear hl
      go_enter Try.func39, Try.ntmps39
      go_wp2
      go_ret
      exact ⟨rfl, H.out, World.grownBy.refl _ _⟩
  obtain ⟨i, rfl⟩ := Int.eq_ofNat_of_zero_le hl.1
  have hi : i < n := by omega
  have h1 : (i : Int) < n := hl.2
  obtain ⟨c0, _, c2, f0, _, f2⟩ := h.at hi
  by_cases hg : (f i).gd = 0
  · have e1 : loseE f n (i : Int) = 13 := by unfold loseE; rw [if_pos hl, Int.toNat_natCast, if_pos hg]
    unfold loseS
    rw [e1, if_neg (by omega)]
    rw [hg] at c2
    clear h hl e1 hg
    go_enter Try.func39, Try.ntmps39
    go_wp2
    go_ret
    exact ⟨rfl, H.out, World.grownBy.refl _ _⟩
  have e1 : loseE f n (i : Int) = 0 := by unfold loseE; rw [if_pos hl, Int.toNat_natCast, if_neg hg]
  unfold loseS
  rw [e1, if_pos rfl, Int.toNat_natCast]
  have hgd := h.inv.gd i hi
  have hu := h.ok.u1
  have HI := Lib.hid (inv_lose h.inv hi hg)
  obtain ⟨x, hx⟩ : ∃ x, x = f i := ⟨_, rfl⟩
  obtain ⟨s, hs⟩ : ∃ s, s = x.st := ⟨_, rfl⟩
  obtain ⟨z, hz⟩ : ∃ z, z = x.gd := ⟨_, rfl⟩
  rw [← hx] at c0 c2 hgd hg
  rw [← hs] at c0
  rw [← hz] at c2 hgd hg
  have hz1 : z ≤ 8 := by omega
  have hz0 : 0 ≤ z := hgd.1
  have hPn : P.g ≠ P.L := h.ne
  by_cases hq : z - 1 = 0 ∧ s = 0
  · obtain ⟨hq1, hq2⟩ := hq
    obtain rfl : z = 1 := by omega
    subst hq2
    have HE : Hid (Rf G n ((w.setCell ⟨P.L, i * 5 + 2, none⟩ (.int .i64 0)).setCell ⟨P.L, i * 5, none⟩ (.int .i64 3)) P (upd f i (lose (f i)))) := Lib.hid (by
      have hr : lose (f i) = ⟨3, x.wr, 0⟩ := by unfold lose freeSt; rw [← hx, ← hs, ← hz]; rfl
      have hI := HI.out
      rw [hr] at hI ⊢
      exact h.set2 hi hI (show 2 < 3 by omega) (show 0 < 3 by omega) (by simp [lnL, ← hx]))
    clear h hl e1 hs hz hx hgd HI hg
    go_enter Try.func39, Try.ntmps39
    go_wp2
    go_ret
    exact ⟨rfl, HE.out, grown_trans (grown_setCell _ _ _) (grown_setCell _ _ _)⟩
  · have HE : Hid (Rf G n (w.setCell ⟨P.L, i * 5 + 2, none⟩ (.int .i64 (z - 1))) P (upd f i (lose (f i)))) := Lib.hid (by
      have hr : lose (f i) = ⟨s, x.wr, z - 1⟩ := by
        unfold lose freeSt
        rw [← hx, ← hs, ← hz]
        by_cases h0 : s = 0
        · rw [if_pos h0, if_neg (fun e => hq ⟨e, h0⟩), h0]
        · rw [if_neg h0]
      have hI := HI.out
      rw [hr] at hI ⊢
      exact h.set1 hi hI (show 2 < 3 by omega) (by simp [lnL, ← hx, hs]))
    clear h hl e1 hs hz hx hgd HI
    by_cases hq1 : z - 1 = 0
    · have hq2 : ¬ s = 0 := fun e => hq ⟨hq1, e⟩
      obtain rfl : z = 1 := by omega
      clear hq hg
      go_enter Try.func39, Try.ntmps39
      go_wp2
      go_ret
      exact ⟨rfl, HE.out, grown_setCell _ _ _⟩
    · clear hq
      go_enter Try.func39, Try.ntmps39
      go_wp2
      go_ret
      exact ⟨rfl, HE.out, grown_setCell _ _ _⟩
end
end Go.Proofs.Ytnnonkmkdjhacaa.LinesRef
