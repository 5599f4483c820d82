/-
  Lines that are all free, and whose wears differ by 1 at most: a round of open, erase, close and release leaves them so. Plain mathematics.
-/
import Derived.Test.YtnnonkmkdjhacaaLinesMath
namespace Go.Proofs.Ytnnonkmkdjhacaa.Lines
open Nand (Shape upd upd_same upd_other)

/-- Free lines of one good block, each of wear M or M + 1. -/
structure Even (f : St) (n : Nat) (M : Int) : Prop where
  st : ∀ i, i < n → (f i).st = 0
  gd : ∀ i, i < n → (f i).gd = 1
  wr : ∀ i, i < n → M ≤ (f i).wr ∧ (f i).wr ≤ M + 1

theorem even_round {f : St} {n : Nat} {M : Int} (h : Even f n M) (hn : 0 < n) (hM : 0 ≤ M ∧ M ≤ 2000000000) :
    ∃ (i : Nat) (f1 f2 f3 f4 : St) (M' : Int), openR f n = ((i : Int), 0) ∧ openS f n = f1 ∧ chg f1 n i 1 = 0 ∧ doAt f1 n i 1 erase = f2 ∧ closeR f2 n = ((i : Int), 0) ∧ closeS f2 n = f3 ∧ chg f3 n i 2 = 0 ∧ doAt f3 n i 2 free = f4 ∧ Even f4 n M' ∧ M ≤ M' ∧ M' ≤ M + 1 := by
  have hcur : cur f n = -1 := cur_none_of fun i hi => by rw [h.st i hi]; omega
  rcases best_cases f n with ⟨_, h2⟩ | ⟨i, hi, hb, hs, hl⟩
  · exact absurd (h.st 0 hn) (h2 0 hn)
  have hR : openR f n = ((i : Int), 0) := by
    unfold openR
    rw [if_neg (by rw [hcur]; simp), if_neg (by omega), hb]
  have hS : openS f n = upd f i (opn (f i)) := by
    unfold openS
    rw [if_pos ⟨hcur, by omega⟩, hb, Int.toNat_natCast]
  obtain ⟨f1, h1⟩ : ∃ g, g = upd f i (opn (f i)) := ⟨_, rfl⟩
  have e1 : f1 i = opn (f i) := by rw [h1]; exact upd_same _ _ _
  have o1 : ∀ j, j ≠ i → f1 j = f j := fun j hj => by rw [h1]; rw [upd_at, if_neg hj]
  obtain ⟨f2, h2⟩ : ∃ g, g = upd f1 i (erase (f1 i)) := ⟨_, rfl⟩
  have e2 : f2 i = erase (f1 i) := by rw [h2]; exact upd_same _ _ _
  have o2 : ∀ j, j ≠ i → f2 j = f j := fun j hj => by rw [h2, upd_at, if_neg hj, o1 j hj]
  have c1 : chg f1 n (i : Int) 1 = 0 := by
    unfold chg
    rw [if_pos ⟨by omega, by omega⟩, Int.toNat_natCast, if_pos (by rw [e1]; rfl)]
  have d1 : doAt f1 n (i : Int) 1 erase = f2 := by
    unfold doAt
    rw [if_pos c1, Int.toNat_natCast, h2]
  have st2 : (f2 i).st = 1 := by rw [e2, e1]; rfl
  have hc2 : cur f2 n = i := by
    rcases cur_cases f2 n with ⟨_, hx⟩ | ⟨j, hj, hx, hy⟩
    · exact absurd st2 (hx i hi)
    · by_cases e : j = i
      · rw [hx, e]
      · rw [o2 j e, h.st j hj] at hy
        omega
  have hR2 : closeR f2 n = ((i : Int), 0) := by
    unfold closeR
    rw [if_neg (by omega), hc2]
  obtain ⟨f3, h3⟩ : ∃ g, g = upd f2 i (shut (f2 i)) := ⟨_, rfl⟩
  have hS2 : closeS f2 n = f3 := by
    unfold closeS
    rw [if_neg (by omega), hc2, Int.toNat_natCast, h3]
  have e3 : f3 i = shut (f2 i) := by rw [h3]; exact upd_same _ _ _
  have o3 : ∀ j, j ≠ i → f3 j = f j := fun j hj => by rw [h3, upd_at, if_neg hj, o2 j hj]
  have c3 : chg f3 n (i : Int) 2 = 0 := by
    unfold chg
    rw [if_pos ⟨by omega, by omega⟩, Int.toNat_natCast, if_pos (by rw [e3]; rfl)]
  obtain ⟨f4, h4⟩ : ∃ g, g = upd f3 i (free (f3 i)) := ⟨_, rfl⟩
  have d3 : doAt f3 n (i : Int) 2 free = f4 := by
    unfold doAt
    rw [if_pos c3, Int.toNat_natCast, h4]
  have o4 : ∀ j, j ≠ i → f4 j = f j := fun j hj => by rw [h4, upd_at, if_neg hj, o3 j hj]
  have hw := h.wr i hi
  have e4 : f4 i = ⟨0, (f i).wr + 1, 1⟩ := by
    rw [h4, upd_same, e3, e2, e1]
    show Ln.mk (freeSt (f i).gd) (min ((f i).wr + 1) 2147483647) (f i).gd = _
    rw [h.gd i hi, show min ((f i).wr + 1) 2147483647 = (f i).wr + 1 by omega]
    rfl
  refine ⟨i, f1, f2, f3, f4, if (f i).wr = M then M else M + 1, hR, by rw [hS, h1], c1, d1, hR2, hS2, c3, d3, ⟨fun j hj => ?_, fun j hj => ?_, fun j hj => ?_⟩, by split <;> omega, by split <;> omega⟩
  · by_cases e : j = i
    · rw [e, e4]
    · rw [o4 j e, h.st j hj]
  · by_cases e : j = i
    · rw [e, e4]
    · rw [o4 j e, h.gd j hj]
  · by_cases e : j = i
    · rw [e, e4]
      dsimp only
      split <;> omega
    · rw [o4 j e]
      have a := h.wr j hj
      have b := (hl j hj (h.st j hj)).1
      split <;> omega
end Go.Proofs.Ytnnonkmkdjhacaa.Lines
