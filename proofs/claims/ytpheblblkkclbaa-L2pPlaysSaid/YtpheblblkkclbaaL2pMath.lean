/-
  The map of sectors to addresses: what it keeps, who is where, what its calls answer: plain mathematics. Nothing of the program's code is named here.
-/
import Derived.Test.YtpheblblkkclbaaNandMath
namespace Go.Proofs.Ytpheblblkkclbaa.L2p

/-- An entry: address, stamp, kind. -/
structure Ent where
  a : Int
  s : Int
  k : Int

/-- The entry of a sector that is nowhere. -/
def off : Ent := ⟨-1, 0, 0⟩

abbrev St := Nat → Ent

/-- An entry that a sector may have, on a device of N sectors. -/
def right (N : Int) (e : Ent) : Prop := 0 ≤ e.a ∧ e.a < N ∧ 1 ≤ e.s ∧ e.s ≤ 1125899906842624 ∧ 1 ≤ e.k ∧ e.k ≤ 2
instance (N : Int) (e : Ent) : Decidable (right N e) := by unfold right; infer_instance

/-- Of n sectors each is nowhere, or has an entry that may be; no two have one address. -/
structure Inv (st : St) (n : Nat) (N : Int) : Prop where
  each : ∀ i, i < n → st i = off ∨ right N (st i)
  one : ∀ i j, i < n → j < n → (st i).a = (st j).a → 0 ≤ (st i).a → i = j

/-- The sector that has an address, or -1. -/
def who (st : St) : Nat → Int → Int
  | 0, _ => -1
  | n + 1, a => if who st n a = -1 then (if (st n).a = a then (n : Int) else -1) else who st n a

theorem who_cases (st : St) (n : Nat) (a : Int) : (who st n a = -1 ∧ ∀ i, i < n → (st i).a ≠ a) ∨ ∃ i, i < n ∧ who st n a = (i : Int) ∧ (st i).a = a := by
  induction n with
  | zero => exact .inl ⟨rfl, fun i hi => absurd hi (by omega)⟩
  | succ n ih =>
    rcases ih with ⟨h1, h2⟩ | ⟨i, hi, h1, h2⟩
    · by_cases e : (st n).a = a
      · exact .inr ⟨n, by omega, by unfold who; rw [if_pos h1, if_pos e], e⟩
      · refine .inl ⟨by unfold who; rw [if_pos h1, if_neg e], fun i hi => ?_⟩
        by_cases e2 : i = n
        · rw [e2]; exact e
        · exact h2 i (by omega)
    · exact .inr ⟨i, by omega, by unfold who; rw [if_neg (by omega), h1], h2⟩

theorem who_none {st : St} {n : Nat} {a : Int} (h : ∀ i, i < n → (st i).a ≠ a) : who st n a = -1 := by
  rcases who_cases st n a with h1 | ⟨i, hi, _, h2⟩
  · exact h1.1
  · exact absurd h2 (h i hi)

theorem who_is {st : St} {n : Nat} {N : Int} (h : Inv st n N) {i : Nat} (hi : i < n) (h0 : 0 ≤ (st i).a) : who st n (st i).a = (i : Int) := by
  rcases who_cases st n (st i).a with ⟨_, h1⟩ | ⟨j, hj, h1, h2⟩
  · exact absurd rfl (h1 i hi)
  · rw [h1, h.one j i hj hi h2 (by rw [h2]; exact h0)]

theorem who_bd (st : St) (n : Nat) (a : Int) : -1 ≤ who st n a ∧ who st n a < n := by
  rcases who_cases st n a with ⟨h1, _⟩ | ⟨j, hj, h1, _⟩ <;> omega

theorem Inv.off (n : Nat) (N : Int) : Inv (fun _ => off) n N := ⟨fun _ _ => .inl rfl, fun i j _ _ _ h => absurd h (by unfold L2p.off; simp)⟩

theorem Inv.a_bd {st : St} {n : Nat} {N : Int} (h : Inv st n N) {i : Nat} (hi : i < n) : (st i).a = -1 ∧ st i = L2p.off ∨ 0 ≤ (st i).a ∧ (st i).a < N ∧ right N (st i) := by
  rcases h.each i hi with e | r
  · exact .inl ⟨by rw [e]; rfl, e⟩
  · exact .inr ⟨r.1, r.2.1, r⟩

/-- A sector's entry anew. -/
def put (st : St) (i : Nat) (e : Ent) : St := fun k => if k = i then e else st k

theorem put_same (st : St) (i : Nat) (e : Ent) : put st i e i = e := if_pos rfl
theorem put_other {st : St} {i k : Nat} {e : Ent} (h : k ≠ i) : put st i e k = st k := if_neg h

theorem Inv.put {st : St} {n : Nat} {N : Int} (h : Inv st n N) {i : Nat} {e : Ent} (hr : right N e) (hf : ∀ j, j < n → j ≠ i → (st j).a ≠ e.a) : Inv (put st i e) n N := by
  refine ⟨fun k hk => ?_, fun j k hj hk he h0 => ?_⟩
  · by_cases e2 : k = i
    · rw [e2, put_same]; exact .inr hr
    · rw [put_other e2]; exact h.each k hk
  · by_cases e1 : j = i
    · by_cases e2 : k = i
      · rw [e1, e2]
      · rw [e1, put_same, put_other e2] at he
        exact absurd he.symm (hf k hk e2)
    · by_cases e2 : k = i
      · rw [e2, put_same, put_other e1] at he
        exact absurd he (hf j hj e1)
      · rw [put_other e1, put_other e2] at he
        rw [put_other e1] at h0
        exact h.one j k hj hk he h0

/-- Nobody else has the address. -/
theorem free_of {st : St} {n : Nat} {N : Int} (h : Inv st n N) {i : Nat} {a : Int} (h0 : 0 ≤ a) (hw : who st n a = -1 ∨ who st n a = (i : Int)) : ∀ j, j < n → j ≠ i → (st j).a ≠ a := by
  intro j hj hji e
  have := who_is h hj (by omega)
  rw [e] at this
  omega

theorem who_put {st : St} {n : Nat} {N : Int} (h : Inv st n N) {i : Nat} (hi : i < n) {e : Ent} (hr : right N e) (hf : ∀ j, j < n → j ≠ i → (st j).a ≠ e.a) {b : Int} (hb : 0 ≤ b) :
    who (put st i e) n b = if b = e.a then (i : Int) else if b = (st i).a then -1 else who st n b := by
  have hI := h.put hr hf
  by_cases e1 : b = e.a
  · rw [if_pos e1, e1]
    have := who_is hI hi (by rw [put_same]; exact hr.1)
    rwa [put_same] at this
  · rw [if_neg e1]
    by_cases e2 : b = (st i).a
    · rw [if_pos e2]
      refine who_none fun j hj => ?_
      by_cases e3 : j = i
      · rw [e3, put_same]; exact fun e4 => e1 e4.symm
      · rw [put_other e3]
        intro e4
        exact e3 (h.one j i hj hi (by rw [e4, e2]) (by rw [e4]; exact hb))
    · rw [if_neg e2]
      rcases who_cases st n b with ⟨h1, h2⟩ | ⟨j, hj, h1, h2⟩
      · rw [h1]
        refine who_none fun j hj => ?_
        by_cases e3 : j = i
        · rw [e3, put_same]; exact fun e4 => e1 e4.symm
        · rw [put_other e3]; exact h2 j hj
      · have e3 : j ≠ i := fun e3 => e2 (by rw [← e3, h2])
        have := who_is hI hj (by rw [put_other e3, h2]; exact hb)
        rw [put_other e3, h2] at this
        rw [this, h1]

/-- What Set answers, and what becomes of the sectors. -/
def setOk (st : St) (n : Nat) (N : Int) (lba : Int) (e : Ent) : Int :=
  if ¬ (0 ≤ lba ∧ lba < n) then 2 else if ¬ right N e then 1 else if who st n e.a ≠ -1 ∧ who st n e.a ≠ lba then 13 else 0
def setDo (st : St) (n : Nat) (N : Int) (lba : Int) (e : Ent) : Bool := decide (setOk st n N lba e = 0 ∧ (st lba.toNat).s < e.s)
def setSt (st : St) (n : Nat) (N : Int) (lba : Int) (e : Ent) : St := if setDo st n N lba e = true then put st lba.toNat e else st

/-- What Move answers, and what becomes of the sectors. -/
def moveOk (st : St) (n : Nat) (N : Int) (lba to : Int) : Int :=
  if ¬ (0 ≤ lba ∧ lba < n) then 2 else if ¬ (0 ≤ to ∧ to < N) then 1 else if who st n to ≠ -1 ∧ who st n to ≠ lba then 13 else 0
def moveDo (st : St) (n : Nat) (N : Int) (lba fr to : Int) : Bool := decide (moveOk st n N lba to = 0 ∧ (st lba.toNat).a ≠ -1 ∧ (st lba.toNat).a = fr)
def moved (e : Ent) (to : Int) : Ent := ⟨to, e.s, e.k⟩
def moveSt (st : St) (n : Nat) (N : Int) (lba fr to : Int) : St := if moveDo st n N lba fr to = true then put st lba.toNat (moved (st lba.toNat) to) else st

theorem setOk_zero {st : St} {n : Nat} {N lba : Int} {e : Ent} (h : setOk st n N lba e = 0) : 0 ≤ lba ∧ lba < n ∧ right N e ∧ (who st n e.a = -1 ∨ who st n e.a = lba) := by
  unfold setOk at h
  split at h
  · simp at h
  · split at h
    · simp at h
    · split at h
      · simp at h
      · rename_i h1 h2 h3
        exact ⟨by omega, by omega, by simpa using h2, by omega⟩

theorem moveOk_zero {st : St} {n : Nat} {N lba to : Int} (h : moveOk st n N lba to = 0) : 0 ≤ lba ∧ lba < n ∧ 0 ≤ to ∧ to < N ∧ (who st n to = -1 ∨ who st n to = lba) := by
  unfold moveOk at h
  split at h
  · simp at h
  · split at h
    · simp at h
    · split at h
      · simp at h
      · omega

theorem Inv.set {st : St} {n : Nat} {N : Int} (h : Inv st n N) (lba : Int) (e : Ent) : Inv (setSt st n N lba e) n N := by
  unfold setSt
  split
  · rename_i hd
    have hd := of_decide_eq_true hd
    obtain ⟨h0, h1, h2, h3⟩ := setOk_zero hd.1
    exact h.put h2 (free_of h h2.1 (by rcases h3 with h3 | h3 <;> omega))
  · exact h

theorem moved_right {st : St} {n : Nat} {N : Int} (h : Inv st n N) {i : Nat} (hi : i < n) (hm : (st i).a ≠ -1) {to : Int} (h0 : 0 ≤ to) (h1 : to < N) : right N (moved (st i) to) := by
  rcases h.a_bd hi with ⟨h2, _⟩ | ⟨_, _, r⟩
  · exact absurd h2 hm
  · exact ⟨h0, h1, r.2.2⟩

theorem Inv.move {st : St} {n : Nat} {N : Int} (h : Inv st n N) (lba fr to : Int) : Inv (moveSt st n N lba fr to) n N := by
  unfold moveSt
  split
  · rename_i hd
    have hd := of_decide_eq_true hd
    obtain ⟨h0, h1, h2, h3, h4⟩ := moveOk_zero hd.1
    exact h.put (moved_right h (by omega) hd.2.1 h2 h3) (free_of h h2 (by show who st n to = -1 ∨ who st n to = (lba.toNat : Int); omega))
  · exact h

/-- How many of the first n are somewhere. -/
def many (st : St) : Nat → Nat
  | 0 => 0
  | n + 1 => many st n + if (st n).a = -1 then 0 else 1

theorem many_le (st : St) (n : Nat) : many st n ≤ n := by
  induction n with
  | zero => exact Nat.le_refl _
  | succ n ih => unfold many; split <;> omega

/-- How many of the first m addresses of a line, from b on, have a sector. -/
def valid (st : St) (n : Nat) (b : Int) : Nat → Nat
  | 0 => 0
  | m + 1 => valid st n b m + if who st n (b + m) = -1 then 0 else 1

theorem valid_le (st : St) (n : Nat) (b : Int) (m : Nat) : valid st n b m ≤ m := by
  induction m with
  | zero => exact Nat.le_refl _
  | succ m ih => unfold valid; split <;> omega

end Go.Proofs.Ytpheblblkkclbaa.L2p
