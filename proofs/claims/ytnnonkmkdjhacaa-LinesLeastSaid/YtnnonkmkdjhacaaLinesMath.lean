/-
  What lines are, and what is done to them: plain mathematics. Nothing of the program's code is named here.
-/
import Derived.Test.YtnnonkmkdjhacaaNandMath
namespace Go.Proofs.Ytnnonkmkdjhacaa.Lines
open Go.RowKit
open Nand (Shape upd upd_same upd_other)

/-- A line: its state, wear and good blocks. -/
structure Ln where
  st : Int
  wr : Int
  gd : Int

abbrev St := Nat → Ln

def room (G : Shape) (gd : Int) : Int := if gd = 0 then 0 else (gd * G.p - 1) * G.s

/-- The open line. -/
def cur (f : St) : Nat → Int
  | 0 => -1
  | k + 1 => if cur f k = -1 then (if (f k).st = 1 then (k : Int) else -1) else cur f k

/-- The free line that was erased least, the first of several. -/
def best (f : St) : Nat → Int
  | 0 => -1
  | k + 1 => if (f k).st = 0 ∧ (best f k = -1 ∨ (f k).wr < (f (best f k).toNat).wr) then (k : Int) else best f k

/-- How many of the first k lines are in a state. -/
def cnt (f : St) (s : Int) : Nat → Int
  | 0 => 0
  | k + 1 => cnt f s k + (if (f k).st = s then 1 else 0)

/-- The rooms of the first k lines. -/
def cap (G : Shape) (f : St) : Nat → Int
  | 0 => 0
  | k + 1 => cap G f k + room G (f k).gd

/-- How little the best was erased. -/
def least (f : St) (k : Nat) : Int := if best f k = -1 then 0 else (f (best f k).toNat).wr

/-- What n lines of at most U blocks always are. -/
structure Inv (f : St) (n : Nat) (U : Int) : Prop where
  gd : ∀ i, i < n → 0 ≤ (f i).gd ∧ (f i).gd ≤ U
  wr : ∀ i, i < n → 0 ≤ (f i).wr ∧ (f i).wr ≤ 2147483647
  st : ∀ i, i < n → 0 ≤ (f i).st ∧ (f i).st ≤ 3
  one : ∀ i j, i < n → j < n → (f i).st = 1 → (f j).st = 1 → i = j
  free : ∀ i, i < n → (f i).st = 0 → (f i).gd ≠ 0

theorem cur_cases (f : St) (k : Nat) : (cur f k = -1 ∧ ∀ i, i < k → (f i).st ≠ 1) ∨ ∃ i : Nat, i < k ∧ cur f k = i ∧ (f i).st = 1 := by
  induction k with
  | zero => exact .inl ⟨rfl, fun i h => absurd h (by omega)⟩
  | succ k ih =>
    rcases ih with ⟨h1, h2⟩ | ⟨i, h1, h2, h3⟩
    · by_cases h : (f k).st = 1
      · exact .inr ⟨k, by omega, by unfold cur; rw [if_pos h1, if_pos h], h⟩
      · refine .inl ⟨by unfold cur; rw [if_pos h1, if_neg h], fun i hi => ?_⟩
        by_cases e : i = k
        · rw [e]; exact h
        · exact h2 i (by omega)
    · exact .inr ⟨i, by omega, by unfold cur; rw [if_neg (by omega), h2], h3⟩

theorem cur_bd (f : St) (k : Nat) : -1 ≤ cur f k ∧ cur f k < k ∨ (k = 0 ∧ cur f k = -1) := by
  rcases cur_cases f k with ⟨h, _⟩ | ⟨i, h1, h2, _⟩ <;> omega

theorem cur_none {f : St} {k : Nat} (h : cur f k = -1) : ∀ i, i < k → (f i).st ≠ 1 := by
  rcases cur_cases f k with ⟨_, h2⟩ | ⟨i, h1, h2, h3⟩
  · exact h2
  · omega

theorem cur_none_of {f : St} {k : Nat} (h : ∀ i, i < k → (f i).st ≠ 1) : cur f k = -1 := by
  rcases cur_cases f k with ⟨h2, _⟩ | ⟨i, h1, h2, h3⟩
  · exact h2
  · exact absurd h3 (h i h1)

/-- The open line is the one. -/
theorem cur_is {f : St} {n : Nat} {U : Int} (hI : Inv f n U) {i : Nat} (hi : i < n) (h : (f i).st = 1) : cur f n = i := by
  rcases cur_cases f n with ⟨_, h2⟩ | ⟨j, h1, h2, h3⟩
  · exact absurd h (h2 i hi)
  · rw [h2, hI.one i j hi h1 h h3]

theorem best_cases (f : St) (k : Nat) : (best f k = -1 ∧ ∀ i, i < k → (f i).st ≠ 0) ∨
    ∃ i : Nat, i < k ∧ best f k = i ∧ (f i).st = 0 ∧ ∀ j, j < k → (f j).st = 0 → (f i).wr ≤ (f j).wr ∧ ((f j).wr = (f i).wr → i ≤ j) := by
  induction k with
  | zero => exact .inl ⟨rfl, fun i h => absurd h (by omega)⟩
  | succ k ih =>
    rcases ih with ⟨h1, h2⟩ | ⟨i, h1, h2, h3, h4⟩
    · by_cases h : (f k).st = 0
      · refine .inr ⟨k, by omega, by unfold best; rw [if_pos ⟨h, .inl h1⟩], h, fun j hj hs => ?_⟩
        by_cases e : j = k
        · subst e; exact ⟨Int.le_refl _, fun _ => Nat.le_refl _⟩
        · exact absurd hs (h2 j (by omega))
      · refine .inl ⟨by unfold best; rw [if_neg (fun hh => h hh.1), h1], fun i hi => ?_⟩
        by_cases e : i = k
        · rw [e]; exact h
        · exact h2 i (by omega)
    · have e1 : (best f k).toNat = i := by rw [h2]; rfl
      by_cases h : (f k).st = 0 ∧ (f k).wr < (f i).wr
      · refine .inr ⟨k, by omega, by unfold best; rw [e1, if_pos ⟨h.1, .inr h.2⟩], h.1, fun j hj hs => ?_⟩
        by_cases e : j = k
        · subst e; exact ⟨Int.le_refl _, fun _ => Nat.le_refl _⟩
        · have := (h4 j (by omega) hs).1
          exact ⟨by omega, fun _ => by omega⟩
      · refine .inr ⟨i, by omega, ?_, h3, fun j hj hs => ?_⟩
        · unfold best
          rw [e1, if_neg (fun hh => h ⟨hh.1, hh.2.resolve_left (by omega)⟩), h2]
        · by_cases e : j = k
          · subst e
            have : ¬ (f j).wr < (f i).wr := fun hh => h ⟨hs, hh⟩
            exact ⟨by omega, fun _ => by omega⟩
          · exact h4 j (by omega) hs

theorem best_some {f : St} {k : Nat} (h : best f k ≠ -1) : ∃ i : Nat, i < k ∧ best f k = i ∧ (f i).st = 0 := by
  rcases best_cases f k with ⟨h1, _⟩ | ⟨i, h1, h2, h3, _⟩
  · exact absurd h1 h
  · exact ⟨i, h1, h2, h3⟩

theorem cnt_bd (f : St) (s : Int) (k : Nat) : 0 ≤ cnt f s k ∧ cnt f s k ≤ k := by
  induction k with
  | zero => exact ⟨Int.le_refl _, Int.le_refl _⟩
  | succ k ih =>
    unfold cnt
    split <;> omega

theorem room_bd {G : Shape} (hG : G.Ok) {gd : Int} (h0 : 0 ≤ gd) (h1 : gd ≤ G.U) : 0 ≤ room G gd ∧ room G gd ≤ 1024 ∧ (gd ≠ 0 → 0 ≤ gd * G.p - 1 ∧ gd * G.p ≤ 256) := by
  have hm := hG.may
  unfold Geom.ok at hm
  have hu := hG.u1
  unfold room
  split
  · exact ⟨by omega, by omega, fun h => by omega⟩
  · have a := Geom.mul_bd (show 1 ≤ gd by omega) (show gd ≤ 8 by omega) (show 1 ≤ G.p by omega) (show G.p ≤ 32 by omega)
    have b : 0 ≤ (gd * G.p - 1) * G.s := Int.mul_nonneg (by omega) (by omega)
    have c : (gd * G.p - 1) * G.s ≤ 255 * 4 := Int.mul_le_mul (by omega) (by omega) (by omega) (by omega)
    exact ⟨b, by omega, fun _ => by omega⟩

/-- What is left when a block is lost is no more. -/
theorem room_less {G : Shape} (hG : G.Ok) {gd : Int} (h0 : 1 ≤ gd) (h1 : gd ≤ G.U) : room G (gd - 1) ≤ room G gd := by
  have hm := hG.may
  unfold Geom.ok at hm
  have h3 := room_bd hG (show 0 ≤ gd by omega) h1
  by_cases h : gd - 1 = 0
  · rw [h]
    exact h3.1
  · unfold room
    rw [if_neg h, if_neg (by omega)]
    refine Int.mul_le_mul_of_nonneg_right ?_ (by omega)
    rw [Int.sub_mul]
    omega

theorem cap_bd {G : Shape} (hG : G.Ok) {f : St} {n : Nat} (h : ∀ i, i < n → 0 ≤ (f i).gd ∧ (f i).gd ≤ G.U) (k : Nat) (hk : k ≤ n) : 0 ≤ cap G f k ∧ cap G f k ≤ 1024 * k := by
  induction k with
  | zero => exact ⟨Int.le_refl _, Int.le_refl _⟩
  | succ k ih =>
    have := ih (by omega)
    have h2 := h k (by omega)
    have h3 := room_bd hG h2.1 h2.2
    unfold cap
    omega

/-! ### What is done to them -/

def freeSt (gd : Int) : Int := if gd = 0 then 3 else 0

/-- Is there such a line, in such a state? -/
def chg (f : St) (n : Nat) (line s : Int) : Int := if 0 ≤ line ∧ line < n then (if (f line.toNat).st = s then 0 else 13) else 2

def shut (x : Ln) : Ln := ⟨2, x.wr, x.gd⟩
def opn (x : Ln) : Ln := ⟨1, x.wr, x.gd⟩
def erase (x : Ln) : Ln := ⟨x.st, min (x.wr + 1) 2147483647, x.gd⟩
def free (x : Ln) : Ln := ⟨freeSt x.gd, x.wr, x.gd⟩
def lose (x : Ln) : Ln := ⟨if x.st = 0 then freeSt (x.gd - 1) else x.st, x.wr, x.gd - 1⟩

def doAt (f : St) (n : Nat) (line s : Int) (g : Ln → Ln) : St := if chg f n line s = 0 then upd f line.toNat (g (f line.toNat)) else f

def loseE (f : St) (n : Nat) (line : Int) : Int := if 0 ≤ line ∧ line < n then (if (f line.toNat).gd = 0 then 13 else 0) else 2
def loseS (f : St) (n : Nat) (line : Int) : St := if loseE f n line = 0 then upd f line.toNat (lose (f line.toNat)) else f

def openR (f : St) (n : Nat) : Int × Int := if cur f n ≠ -1 then (0, 13) else if best f n = -1 then (0, 11) else (best f n, 0)
def openS (f : St) (n : Nat) : St := if cur f n = -1 ∧ best f n ≠ -1 then upd f (best f n).toNat (opn (f (best f n).toNat)) else f
def closeR (f : St) (n : Nat) : Int × Int := if cur f n = -1 then (0, 13) else (cur f n, 0)
def closeS (f : St) (n : Nat) : St := if cur f n = -1 then f else upd f (cur f n).toNat (shut (f (cur f n).toNat))

theorem chg_ok {f : St} {n : Nat} {line s : Int} (h : chg f n line s = 0) : ∃ i : Nat, i < n ∧ line = i ∧ (f i).st = s := by
  unfold chg at h
  split at h
  · split at h
    · rename_i h1 h2
      exact ⟨line.toNat, by omega, by omega, h2⟩
    · omega
  · omega

theorem upd_at (f : St) (i j : Nat) (x : Ln) : upd f i x j = if j = i then x else f j := rfl

theorem inv_upd {f : St} {n : Nat} {U : Int} (h : Inv f n U) {i : Nat} {x : Ln} (hgd : 0 ≤ x.gd ∧ x.gd ≤ U) (hwr : 0 ≤ x.wr ∧ x.wr ≤ 2147483647) (hst : 0 ≤ x.st ∧ x.st ≤ 3) (hf : x.st = 0 → x.gd ≠ 0)
    (ho : x.st = 1 → ∀ j, j < n → j ≠ i → (f j).st ≠ 1) : Inv (upd f i x) n U := by
  refine ⟨fun j hj => ?_, fun j hj => ?_, fun j hj => ?_, fun j k hj hk h1 h2 => ?_, fun j hj hs => ?_⟩
  · rw [upd_at]; split
    · exact hgd
    · exact h.gd j hj
  · rw [upd_at]; split
    · exact hwr
    · exact h.wr j hj
  · rw [upd_at]; split
    · exact hst
    · exact h.st j hj
  · rw [upd_at] at h1 h2
    split at h1 <;> split at h2
    · omega
    · rename_i e1 e2
      exact absurd h2 (ho h1 k hk e2)
    · rename_i e1 e2
      exact absurd h1 (ho h2 j hj e1)
    · exact h.one j k hj hk h1 h2
  · rw [upd_at] at hs ⊢
    split at hs <;> rename_i e
    · rw [if_pos e]; exact hf hs
    · rw [if_neg e]; exact h.free j hj hs

theorem freeSt_bd (gd : Int) : (freeSt gd = 0 ∨ freeSt gd = 3) ∧ (freeSt gd = 0 → gd ≠ 0) := by
  unfold freeSt
  split <;> omega

theorem inv_shut {f : St} {n : Nat} {U : Int} (h : Inv f n U) {i : Nat} (hi : i < n) : Inv (upd f i (shut (f i))) n U :=
  inv_upd h (h.gd i hi) (h.wr i hi) (by unfold shut; dsimp only; omega) (fun e => by simp [shut] at e) (fun e => by simp [shut] at e)

theorem inv_free {f : St} {n : Nat} {U : Int} (h : Inv f n U) {i : Nat} (hi : i < n) : Inv (upd f i (free (f i))) n U := by
  have hb := freeSt_bd (f i).gd
  exact inv_upd h (h.gd i hi) (h.wr i hi) (by unfold free; dsimp only; omega) (fun e => hb.2 e) (fun e => by have e : freeSt (f i).gd = 1 := e; omega)

theorem inv_erase {f : St} {n : Nat} {U : Int} (h : Inv f n U) {i : Nat} (hi : i < n) : Inv (upd f i (erase (f i))) n U := by
  have hw := h.wr i hi
  exact inv_upd h (h.gd i hi) (by unfold erase; dsimp only; omega) (h.st i hi) (fun e => h.free i hi e) (fun e j hj hji e2 => hji (h.one j i hj hi e2 e))

theorem inv_open {f : St} {n : Nat} {U : Int} (h : Inv f n U) {i : Nat} (hi : i < n) (hc : cur f n = -1) : Inv (upd f i (opn (f i))) n U :=
  inv_upd h (h.gd i hi) (h.wr i hi) (by unfold opn; dsimp only; omega) (fun e => by simp [opn] at e) (fun _ j hj _ => cur_none hc j hj)

theorem inv_lose {f : St} {n : Nat} {U : Int} (h : Inv f n U) {i : Nat} (hi : i < n) (hg : (f i).gd ≠ 0) : Inv (upd f i (lose (f i))) n U := by
  have hb := freeSt_bd ((f i).gd - 1)
  have hgd := h.gd i hi
  have hst := h.st i hi
  refine inv_upd h (by unfold lose; dsimp only; omega) (h.wr i hi) (by unfold lose; dsimp only; split <;> omega) (fun e => ?_) (fun e j hj hji e2 => ?_)
  · unfold lose at e ⊢
    dsimp only at e ⊢
    split at e
    · exact hb.2 e
    · rename_i h2; exact absurd e h2
  · unfold lose at e
    dsimp only at e
    split at e
    · omega
    · exact hji (h.one j i hj hi e2 e)

theorem inv_do {f : St} {n : Nat} {U : Int} (h : Inv f n U) {line s : Int} {g : Ln → Ln} (hg : ∀ i, i < n → Inv (upd f i (g (f i))) n U) : Inv (doAt f n line s g) n U := by
  unfold doAt
  split
  · rename_i h0
    obtain ⟨i, hi, rfl, _⟩ := chg_ok h0
    exact hg i hi
  · exact h

theorem inv_loseS {f : St} {n : Nat} {U : Int} (h : Inv f n U) (line : Int) : Inv (loseS f n line) n U := by
  unfold loseS
  split
  · rename_i h0
    unfold loseE at h0
    split at h0
    · split at h0
      · omega
      · rename_i h1 h2
        exact inv_lose h (by omega) h2
    · omega
  · exact h

theorem inv_openS {f : St} {n : Nat} {U : Int} (h : Inv f n U) : Inv (openS f n) n U := by
  unfold openS
  split
  · rename_i h0
    obtain ⟨i, hi, e, _⟩ := best_some h0.2
    rw [e]
    exact inv_open h hi h0.1
  · exact h

theorem inv_closeS {f : St} {n : Nat} {U : Int} (h : Inv f n U) : Inv (closeS f n) n U := by
  unfold closeS
  split
  · exact h
  · rename_i h0
    rcases cur_cases f n with ⟨h1, _⟩ | ⟨i, hi, e, _⟩
    · exact absurd h1 h0
    · rw [e]
      exact inv_shut h hi

theorem inv_new (gd wr : Nat → Int) (n : Nat) (U : Int) (hg : ∀ i, i < n → 0 ≤ gd i ∧ gd i ≤ U) (hw : ∀ i, i < n → 0 ≤ wr i ∧ wr i ≤ 2147483647) : Inv (fun i => ⟨freeSt (gd i), wr i, gd i⟩) n U := by
  refine ⟨hg, hw, fun i _ => ?_, fun i j _ _ h1 _ => ?_, fun i _ h => (freeSt_bd (gd i)).2 h⟩
  · have := freeSt_bd (gd i)
    dsimp only
    omega
  · have := freeSt_bd (gd i)
    have h1 : freeSt (gd i) = 1 := h1
    omega

end Go.Proofs.Ytnnonkmkdjhacaa.Lines
