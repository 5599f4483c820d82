/-
  What the document's lines of layer 12 do: Open.
-/
import Derived.Test.YtnnonkmkdjhacaaLinesRef2
namespace Go.Proofs.Ytnnonkmkdjhacaa.LinesRef
open Go.RowKit Lines LinesPkg
open Nand (Shape upd upd_same upd_other)
set_option maxRecDepth 4000

theorem best_yes {f : St} {k : Nat} (h : (f k).st = 0) (h2 : best f k = -1 ∨ (f k).wr < (f (best f k).toNat).wr) : best f (k + 1) = k := if_pos ⟨h, h2⟩
theorem best_no {f : St} {k : Nat} (h : ¬ ((f k).st = 0 ∧ (best f k = -1 ∨ (f k).wr < (f (best f k).toNat).wr))) : best f (k + 1) = best f k := if_neg h

theorem open_busy {f : St} {n : Nat} (h : cur f n ≠ -1) : openR f n = (0, 13) ∧ openS f n = f := ⟨if_pos h, if_neg (fun hh => h hh.1)⟩
theorem open_full {f : St} {n : Nat} (h : cur f n = -1) (hb : best f n = -1) : openR f n = (0, 11) ∧ openS f n = f :=
  ⟨by unfold openR; rw [if_neg (fun hh => hh h), if_pos hb], if_neg (fun hh => hh.2 hb)⟩
theorem open_ok {f : St} {n i : Nat} (h : cur f n = -1) (hb : best f n = i) : openR f n = ((i : Int), 0) ∧ openS f n = upd f i (opn (f i)) :=
  ⟨by unfold openR; rw [if_neg (fun hh => hh h), if_neg (by omega), hb], by unfold openS; rw [if_pos ⟨h, by omega⟩, hb, Int.toNat_natCast]⟩

section
variable {G : Shape} {n : Nat} {w w' : World} {P : Pl} {f : St}

set_option maxHeartbeats 4000000 in
theorem Open_any (h : Rf G n w P f) :
    Calls Try.prog 35 #[ptr P.g 0] w fun e w' => e = .returned (pairV (openR f n)) ∧ Rf G n w' P (openS f n) ∧ Turn P.own P.own w w' := by
  have H := Lib.hid h
  have HC := Lib.hid (Current_any h)
  have hn := h.n1
  by_cases hc : cur f n = -1
  rotate_left
  · rw [(open_busy hc).1, (open_busy hc).2]
    have hcb : 0 ≤ cur f n := by
      rcases cur_cases f n with ⟨hc2, _⟩ | ⟨i, _, he, _⟩
      · exact absurd hc2 hc
      · omega
    generalize cur f n = c at *
    clear h hc
    go_enter Try.func35, Try.ntmps35
    go_wp2_with fail
    refine HC.out.mono ?_
    rintro e w2 ⟨rfl, hw⟩; subst w2
    go_wp2
    go_ret2
    exact ⟨rfl, H.out, Turn.refl _ _⟩
  have HCN := Lib.hid hc
  rw [hc] at HC
  clear h hc
  go_enter Try.func35, Try.ntmps35
  go_wp2_with fail
  refine HC.out.mono ?_
  rintro e w2 ⟨rfl, hw⟩; subst w2
  go_wp2
  go_loopw [4, 5] (fun m i wr => ∃ (k : Nat) (z : Int), i = .int .i64 (k : Int) ∧ m = .int .i64 z ∧ z = best f k ∧ k ≤ n ∧ ∃ j, wr = w.drewN j) (fun _ i _ => n - (intOf i).toNat)
  case atStart => exact ⟨0, -1, rfl, rfl, rfl, Nat.zero_le _, 0, rfl⟩
  case round =>
    obtain ⟨k, z, rfl, rfl, hz, hk, j, rfl⟩ := hrel
    have HP := Lib.hid (H.out.below (draws_below w j))
    obtain ⟨_, _, _, _, _, c5⟩ := H.out.cells
    have HZ := Lib.hid hz
    by_cases hlt : k < n
    · obtain ⟨c0, c1, _⟩ := H.out.at hlt
      have hlt' : (k : Int) < n := by omega
      by_cases hs : (f k).st = 0
      · rcases best_cases f k with ⟨hb, _⟩ | ⟨i, hi, hb, _⟩
        · have HT := Lib.hid (best_yes hs (.inl hb))
          obtain rfl : z = -1 := hz.trans hb
          rw [hs] at c0
          clear hz hb hs
          generalize (f k).wr = x at *
          go_wp2_with fail
          go_quiet (fail)
          go_wp2
          go_roundw
          case rel => exact ⟨k + 1, k, by go_num, rfl, HT.out.symm, by omega, _, rfl⟩
          case measure => simp [intOf]; omega
        · obtain rfl : z = (i : Int) := hz.trans hb
          obtain ⟨_, d1, _⟩ := H.out.at (show i < n by omega)
          have hi2 : (i : Int) < n := by omega
          have hi3 : ¬ (i : Int) < 0 := by omega
          by_cases hw : (f k).wr < (f i).wr
          · have HT := Lib.hid (best_yes hs (.inr (by rw [hb]; exact hw)))
            rw [hs] at c0
            clear hz hb hs
            generalize (f k).wr = x at *
            generalize (f i).wr = y at *
            have hw2 : decide (x < y) = true := decide_eq_true hw
            go_wp2_with fail
            go_quiet (fail)
            go_wp2
            go_roundw
            case rel => exact ⟨k + 1, k, by go_num, rfl, HT.out.symm, by omega, _, rfl⟩
            case measure => simp [intOf]; omega
          · have HT := Lib.hid (best_no (f := f) (k := k) (fun hh => hh.2.elim (fun h2 => by omega) (fun h2 => hw (by rw [hb] at h2; exact h2))))
            rw [hs] at c0
            have HB := Lib.hid hb
            clear hz hb hs
            generalize (f k).wr = x at *
            generalize (f i).wr = y at *
            have hw2 : decide (x < y) = false := decide_eq_false hw
            go_wp2_with fail
            go_quiet (fail)
            go_wp2
            go_roundw
            case rel => exact ⟨k + 1, i, by go_num, rfl, by rw [HT.out, HB.out], by omega, _, rfl⟩
            case measure => simp [intOf]; omega
      · have HT := Lib.hid (best_no (f := f) (k := k) (fun hh => hs hh.1))
        have hs2 : ((f k).st == 0) = false := by simp [hs]
        clear hz
        generalize (f k).st = s at *
        go_wp2_with fail
        go_quiet (fail)
        go_wp2
        go_roundw
        case rel => exact ⟨k + 1, z, by go_num, rfl, by rw [HT.out, ← HZ.out], by omega, _, rfl⟩
        case measure => simp [intOf]; omega
    · obtain rfl : k = n := by omega
      rcases best_cases f k with ⟨hb, _⟩ | ⟨i, hi, hb, hs, _⟩
      · obtain rfl : z = -1 := hz.trans hb
        have HBB := Lib.hid hb
        clear hz hb HZ
        go_wp2
        go_ret2
        rw [(open_full HCN.out HBB.out).1, (open_full HCN.out HBB.out).2]
        exact ⟨rfl, HP.out, Turn.of_below _ (draws_below w j)⟩
      · obtain rfl : z = (i : Int) := hz.trans hb
        have HBB := Lib.hid hb
        obtain ⟨c0, _, _, f0, _⟩ := H.out.at hi
        have HE : Hid (Rf G k ((w.drewN j).setCell ⟨P.L, i * 5, none⟩ (.int .i64 1)) P (upd f i (opn (f i)))) := Lib.hid (HP.out.set1 hi (inv_open HP.out.inv hi HCN.out) (show 0 < 3 by omega) rfl)
        have hi2 : (i : Int) < k := by omega
        have hi3 : ¬ (i : Int) < 0 := by omega
        clear hz hb HZ hs
        go_wp2
        go_ret2
        rw [(open_ok HCN.out HBB.out).1, (open_ok HCN.out HBB.out).2]
        exact ⟨rfl, HE.out, (Turn.of_below _ (draws_below w j)).trans (grown_turn (grown_setCell _ _ _) (.inr rfl))⟩
end
end Go.Proofs.Ytnnonkmkdjhacaa.LinesRef
