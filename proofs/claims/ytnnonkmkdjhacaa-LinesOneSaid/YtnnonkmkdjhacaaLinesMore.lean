/-
  More of what lines are: how many there are in each state, what their rooms come to. Plain mathematics.
-/
import Derived.Test.YtnnonkmkdjhacaaLinesMath
namespace Go.Proofs.Ytnnonkmkdjhacaa.Lines
open Nand (Shape upd upd_same upd_other)

theorem cnt_zero {f : St} {s : Int} {k : Nat} (h : ∀ i, i < k → (f i).st ≠ s) : cnt f s k = 0 := by
  induction k with
  | zero => rfl
  | succ k ih =>
    unfold cnt
    rw [ih (fun i hi => h i (by omega)), if_neg (h k (by omega))]
    omega

theorem cnt_one {f : St} {n : Nat} {U : Int} (hI : Inv f n U) (k : Nat) (hk : k ≤ n) : cnt f 1 k ≤ 1 := by
  induction k with
  | zero => unfold cnt; omega
  | succ k ih =>
    have h := ih (by omega)
    unfold cnt
    by_cases e : (f k).st = 1
    · rw [cnt_zero (fun i hi e2 => by have := hI.one i k (by omega) (by omega) e2 e; omega), if_pos e]
      omega
    · rw [if_neg e]
      omega

theorem cnt_sum {f : St} {n : Nat} {U : Int} (hI : Inv f n U) (k : Nat) (hk : k ≤ n) : cnt f 0 k + cnt f 1 k + cnt f 2 k + cnt f 3 k = k := by
  induction k with
  | zero => rfl
  | succ k ih =>
    have h := ih (by omega)
    have hs := hI.st k (by omega)
    unfold cnt
    rcases (show (f k).st = 0 ∨ (f k).st = 1 ∨ (f k).st = 2 ∨ (f k).st = 3 by omega) with e | e | e | e <;> rw [e] <;> simp <;> omega

theorem cap_le {G : Shape} {f g : St} (k : Nat) (h : ∀ i, i < k → room G (g i).gd ≤ room G (f i).gd) : cap G g k ≤ cap G f k := by
  induction k with
  | zero => exact Int.le_refl _
  | succ k ih =>
    have a := ih (fun i hi => h i (by omega))
    have b := h k (by omega)
    unfold cap
    omega

theorem cap_upd {G : Shape} {f : St} {i : Nat} {x : Ln} (n : Nat) (h : room G x.gd ≤ room G (f i).gd) : cap G (upd f i x) n ≤ cap G f n := by
  refine cap_le n fun j hj => ?_
  rw [upd_at]
  split
  · rename_i e; rw [e]; exact h
  · exact Int.le_refl _

theorem cap_do {G : Shape} {f : St} {n : Nat} {line s : Int} {g : Ln → Ln} (hg : ∀ x, (g x).gd = x.gd) : cap G (doAt f n line s g) n ≤ cap G f n := by
  unfold doAt
  split
  · exact cap_upd n (by rw [hg]; exact Int.le_refl _)
  · exact Int.le_refl _

theorem cap_open {G : Shape} (f : St) (n : Nat) : cap G (openS f n) n ≤ cap G f n := by
  unfold openS
  split
  · exact cap_upd n (Int.le_refl _)
  · exact Int.le_refl _

theorem cap_close {G : Shape} (f : St) (n : Nat) : cap G (closeS f n) n ≤ cap G f n := by
  unfold closeS
  split
  · exact Int.le_refl _
  · exact cap_upd n (Int.le_refl _)

theorem cap_lose {G : Shape} (hG : G.Ok) {f : St} {n : Nat} (hI : Inv f n G.U) (line : Int) : cap G (loseS f n line) n ≤ cap G f n := by
  unfold loseS
  split
  · rename_i h0
    unfold loseE at h0
    split at h0
    · split at h0
      · omega
      · rename_i h1 h2
        have := hI.gd line.toNat (by omega)
        exact cap_upd n (room_less hG (by omega) this.2)
    · omega
  · exact Int.le_refl _

/-- What the open line is, and what the others are not. -/
theorem cur_iff {f : St} {n : Nat} {U : Int} (hI : Inv f n U) {i : Nat} (hi : i < n) : ((f i).st = 1 ∧ cur f n = i) ∨ ((f i).st ≠ 1 ∧ cur f n ≠ i) := by
  by_cases e : (f i).st = 1
  · exact .inl ⟨e, cur_is hI hi e⟩
  · refine .inr ⟨e, fun h => ?_⟩
    rcases cur_cases f n with ⟨h1, _⟩ | ⟨j, _, h2, h3⟩
    · omega
    · obtain rfl : j = i := by omega
      exact e h3
end Go.Proofs.Ytnnonkmkdjhacaa.Lines
