/-
  Numbers in base 128, as lists of bytes: their codes, and what a list of bytes begins with; four bytes of a number. Plain mathematics: nothing of the program's code is named here.
-/
import Derived.WalkKit
namespace Go.Proofs.Yteonjdigcecceaa.Wire

/-- The code of a number: its digits in base 128, the least first, 128 added to all but the last. -/
def code (n : Nat) : List UInt8 := if n < 128 then [UInt8.ofNat n] else UInt8.ofNat (n % 128 + 128) :: code (n / 128)
termination_by n
decreasing_by omega

/-- The codes of numbers, one behind the other; negative ones have none. -/
def codes : List Int → List UInt8
  | [] => []
  | z :: zs => (if z < 0 then [] else code z.toNat) ++ codes zs

/-- The number whose code a list begins with, and that code's length. -/
def tk : List UInt8 → Option (Nat × Nat)
  | [] => none
  | x :: xs => if x.toNat < 128 then some (x.toNat, 1) else
    match tk xs with
    | none => none
    | some (n, k) => if n = 0 then none else some (x.toNat - 128 + 128 * n, k + 1)

/-- The same, of at most nine digits. -/
def takes (b : List UInt8) : Option (Nat × Nat) := tk (b.take 9)

/-- The digits' value. -/
def val : List UInt8 → Nat
  | [] => 0
  | x :: xs => x.toNat % 128 + 128 * val xs

theorem code_small {n : Nat} (h : n < 128) : code n = [UInt8.ofNat n] := by rw [code, if_pos h]
theorem code_big {n : Nat} (h : ¬ n < 128) : code n = UInt8.ofNat (n % 128 + 128) :: code (n / 128) := by rw [code, if_neg h]

theorem code_pos (n : Nat) : 1 ≤ (code n).length := by
  by_cases h : n < 128
  · rw [code_small h]; simp
  · rw [code_big h]; simp

theorem code_len : ∀ (k n : Nat), n < 128 ^ (k + 1) → (code n).length ≤ k + 1
  | 0, n, h => by rw [code_small (by simpa using h)]; simp
  | k + 1, n, h => by
    by_cases h1 : n < 128
    · rw [code_small h1]; simp
    · rw [code_big h1]
      have := code_len k (n / 128) (by rw [Nat.div_lt_iff_lt_mul (by omega)]; rw [Nat.pow_succ] at h; exact h)
      simp only [List.length_cons]
      omega

theorem code_len9 (n : Nat) (h : n < 9223372036854775808) : (code n).length ≤ 9 := code_len 8 n (by simpa using h)

theorem ofNat_toNat (n : Nat) (h : n < 256) : (UInt8.ofNat n).toNat = n := by
  rw [UInt8.toNat_ofNat']
  omega

theorem tk_code (n : Nat) : ∀ rest, tk (code n ++ rest) = some (n, (code n).length) := by
  induction n using Nat.strongRecOn with
  | ind n ih =>
    intro rest
    by_cases h : n < 128
    · rw [code_small h]
      simp only [List.singleton_append, tk, List.length_singleton]
      rw [ofNat_toNat n (by omega), if_pos h]
    · rw [code_big h]
      simp only [List.cons_append, tk, List.length_cons]
      rw [ih (n / 128) (by omega) rest, ofNat_toNat _ (by omega), if_neg (by omega)]
      simp only
      rw [if_neg (by omega)]
      simp only [Option.some.injEq, Prod.mk.injEq, and_true]
      omega

theorem tk_some : ∀ (b : List UInt8) (n k : Nat), tk b = some (n, k) → 1 ≤ k ∧ k ≤ b.length ∧ n < 128 ^ k ∧ code n = b.take k
  | [], n, k, h => by simp [tk] at h
  | x :: xs, n, k, h => by
    have hx := x.toNat_lt
    simp only [tk] at h
    by_cases h1 : x.toNat < 128
    · rw [if_pos h1] at h
      simp only [Option.some.injEq, Prod.mk.injEq] at h
      obtain ⟨rfl, rfl⟩ := h
      refine ⟨Nat.le_refl _, by simp, by simpa using h1, ?_⟩
      rw [code_small h1]
      simp
    · rw [if_neg h1] at h
      rcases ht : tk xs with _ | ⟨m, j⟩
      · rw [ht] at h; simp at h
      · rw [ht] at h
        simp only at h
        by_cases hm : m = 0
        · rw [if_pos hm] at h; simp at h
        · rw [if_neg hm] at h
          simp only [Option.some.injEq, Prod.mk.injEq] at h
          obtain ⟨rfl, rfl⟩ := h
          obtain ⟨h2, h3, h4, h5⟩ := tk_some xs m j ht
          refine ⟨by omega, by simp; omega, ?_, ?_⟩
          · rw [Nat.pow_succ]
            have : m + 1 ≤ 128 ^ j := h4
            omega
          · rw [code_big (by omega), List.take_succ_cons, ← h5, show (x.toNat - 128 + 128 * m) / 128 = m by omega, show (x.toNat - 128 + 128 * m) % 128 + 128 = x.toNat by omega]
            congr 1
            exact UInt8.toNat_inj.1 (by rw [ofNat_toNat _ (by omega)])

theorem takes_code (n : Nat) (h : n < 9223372036854775808) (rest : List UInt8) : takes (code n ++ rest) = some (n, (code n).length) := by
  unfold takes
  rw [List.take_append, List.take_of_length_le (code_len9 n h)]
  exact tk_code n _

theorem takes_some {b : List UInt8} {n k : Nat} (h : takes b = some (n, k)) : 1 ≤ k ∧ k ≤ 9 ∧ k ≤ b.length ∧ n < 9223372036854775808 ∧ code n = b.take k := by
  obtain ⟨h1, h2, h3, h4⟩ := tk_some _ _ _ h
  simp only [List.length_take] at h2
  refine ⟨h1, by omega, by omega, ?_, ?_⟩
  · have : 128 ^ k ≤ 128 ^ 9 := Nat.pow_le_pow_right (by omega) (by omega)
    have e : (128 : Nat) ^ 9 = 9223372036854775808 := by decide
    omega
  · rw [h4, List.take_take, Nat.min_eq_left (by omega)]

/-- No code is the beginning of another one. -/
theorem code_apart {a b : Nat} (h : a ≠ b) : (code a).take (min (code a).length (code b).length) ≠ (code b).take (min (code a).length (code b).length) := by
  intro e
  apply h
  rcases Nat.le_total (code a).length (code b).length with hl | hl
  · rw [Nat.min_eq_left hl, List.take_length] at e
    have h1 : tk (code b) = some (a, (code a).length) := by
      rw [← List.take_append_drop (code a).length (code b), ← e]
      exact tk_code a _
    have h2 := tk_code b []
    rw [List.append_nil, h1] at h2
    simp only [Option.some.injEq, Prod.mk.injEq] at h2
    exact h2.1
  · rw [Nat.min_eq_right hl, List.take_length] at e
    have h1 : tk (code a) = some (b, (code b).length) := by
      rw [← List.take_append_drop (code b).length (code a), e]
      exact tk_code b _
    have h2 := tk_code a []
    rw [List.append_nil, h1] at h2
    simp only [Option.some.injEq, Prod.mk.injEq] at h2
    exact h2.1.symm

/-! ### Digit by digit -/

theorem val_lt : ∀ l : List UInt8, val l < 128 ^ l.length
  | [] => by simp [val]
  | x :: xs => by
    have := val_lt xs
    simp only [val, List.length_cons, Nat.pow_succ]
    omega

theorem val_snoc : ∀ (l : List UInt8) (x : UInt8), val (l ++ [x]) = val l + x.toNat % 128 * 128 ^ l.length
  | [], x => by simp [val]
  | y :: l, x => by
    simp only [List.cons_append, val, val_snoc l x, List.length_cons, Nat.pow_succ]
    rw [Nat.mul_add, ← Nat.mul_assoc (x.toNat % 128), Nat.mul_comm 128 (x.toNat % 128 * _)]
    omega

def high (l : List UInt8) : Prop := ∀ x ∈ l, 128 ≤ x.toNat

theorem high_nil : high [] := fun x hx => by simp at hx

theorem high_snoc {l : List UInt8} {x : UInt8} (h : high l) (hx : 128 ≤ x.toNat) : high (l ++ [x]) := by
  intro y hy
  rcases List.mem_append.1 hy with h1 | h1
  · exact h y h1
  · rw [List.mem_singleton.1 h1]; exact hx

/-- Digits that go on, then others. -/
theorem tk_high : ∀ (p ys : List UInt8), high p → tk (p ++ ys) = match tk ys with
    | none => none
    | some (n, k) => if p ≠ [] ∧ n = 0 then none else some (val p + 128 ^ p.length * n, p.length + k)
  | [], ys, _ => by
    rcases h : tk ys with _ | ⟨n, k⟩ <;> simp [h, val]
  | x :: p, ys, hp => by
    have hx := hp x (by simp)
    have hx2 := x.toNat_lt
    have ih := tk_high p ys (fun y hy => hp y (by simp [hy]))
    simp only [List.cons_append, tk]
    rw [if_neg (by omega), ih]
    rcases h : tk ys with _ | ⟨n, k⟩
    · simp
    · simp only
      by_cases hn : n = 0
      · subst hn
        by_cases hp0 : p = []
        · subst hp0
          simp [val]
        · simp [hp0]
      · rw [if_neg (fun hh => hn hh.2)]
        simp only
        have h0 : ¬ val p + 128 ^ p.length * n = 0 := by
          have : 0 < 128 ^ p.length * n := Nat.mul_pos (Nat.pow_pos (by omega)) (by omega)
          omega
        rw [if_neg h0, if_neg (fun hh => hn hh.2)]
        simp only [Option.some.injEq, Prod.mk.injEq, List.length_cons, val, Nat.pow_succ]
        constructor
        · rw [Nat.mul_add, ← Nat.mul_assoc, Nat.mul_comm 128 (128 ^ _)]
          omega
        · omega

theorem tk_cons_low {x : UInt8} (hx : x.toNat < 128) (ys : List UInt8) : tk (x :: ys) = some (x.toNat, 1) := by
  simp only [tk]
  rw [if_pos hx]

/-- Where it ends at digit i. -/
theorem takes_at {xs : List UInt8} {i : Nat} {x : UInt8} (hp : high (xs.take i)) (hi : i < 9) (hx : xs[i]? = some x) (hl : x.toNat < 128) (hz : ¬ (0 < i ∧ x.toNat = 0)) :
    takes xs = some (val (xs.take (i + 1)), i + 1) := by
  obtain ⟨hlen, e⟩ := List.getElem?_eq_some_iff.1 hx
  have e9 : xs.take 9 = xs.take i ++ x :: (xs.drop (i + 1)).take (8 - i) := by
    rw [← e, show (9 : Nat) = i + (9 - i) by omega, List.take_add, show 9 - i = (8 - i) + 1 by omega, List.drop_eq_getElem_cons hlen, List.take_succ_cons]
  have hli : (xs.take i).length = i := by simp; omega
  unfold takes
  rw [e9, tk_high _ _ hp, tk_cons_low hl]
  simp only
  rw [if_neg, hli]
  · rw [List.take_succ_eq_append_getElem hlen, val_snoc, hli, e, Nat.mod_eq_of_lt hl, Nat.mul_comm]
  · intro hh
    apply hz
    refine ⟨?_, hh.2⟩
    rcases Nat.eq_zero_or_pos i with h0 | h0
    · subst h0; simp at hh
    · exact h0

/-- A last digit of nought behind others. -/
theorem takes_zero {xs : List UInt8} {i : Nat} {x : UInt8} (hp : high (xs.take i)) (hi : i < 9) (hx : xs[i]? = some x) (h0 : 0 < i) (hz : x.toNat = 0) : takes xs = none := by
  obtain ⟨hlen, e⟩ := List.getElem?_eq_some_iff.1 hx
  have e9 : xs.take 9 = xs.take i ++ x :: (xs.drop (i + 1)).take (8 - i) := by
    rw [← e, show (9 : Nat) = i + (9 - i) by omega, List.take_add, show 9 - i = (8 - i) + 1 by omega, List.drop_eq_getElem_cons hlen, List.take_succ_cons]
  unfold takes
  rw [e9, tk_high _ _ hp, tk_cons_low (by omega)]
  simp only
  rw [if_pos]
  refine ⟨?_, hz⟩
  intro hh
  have : (xs.take i).length = 0 := by rw [hh]; rfl
  rw [List.length_take] at this
  omega

/-- No last digit among the first nine, or none at all. -/
theorem takes_none {xs : List UInt8} {i : Nat} (hp : high (xs.take i)) (hi : i = 9 ∨ (i ≤ 9 ∧ i = xs.length)) : takes xs = none := by
  have e9 : xs.take 9 = xs.take i ++ [] := by
    rw [List.append_nil]
    rcases hi with rfl | ⟨h1, rfl⟩
    · rfl
    · rw [List.take_of_length_le h1, List.take_length]
  unfold takes
  rw [e9, tk_high _ _ hp]
  rfl

theorem high_take_succ {xs : List UInt8} {i : Nat} {x : UInt8} (hp : high (xs.take i)) (hx : xs[i]? = some x) (h : 128 ≤ x.toNat) : high (xs.take (i + 1)) := by
  obtain ⟨hlen, e⟩ := List.getElem?_eq_some_iff.1 hx
  rw [List.take_succ_eq_append_getElem hlen, e]
  exact high_snoc hp h

theorem val_take_succ {xs : List UInt8} {i : Nat} {x : UInt8} (hx : xs[i]? = some x) : val (xs.take (i + 1)) = val (xs.take i) + x.toNat % 128 * 128 ^ i := by
  obtain ⟨hlen, e⟩ := List.getElem?_eq_some_iff.1 hx
  rw [List.take_succ_eq_append_getElem hlen, e, val_snoc]
  congr 3
  simp
  omega

/-- Made again, the digits are the bytes read just if they tell a number. -/
theorem again_iff {xs : List UInt8} {i : Nat} {x : UInt8} (hp : high (xs.take i)) (hi : i < 9) (hx : xs[i]? = some x) (hl : x.toNat < 128) :
    code (val (xs.take (i + 1))) = xs.take (i + 1) ↔ ¬ (0 < i ∧ x.toNat = 0) := by
  constructor
  · intro h ⟨h0, hz⟩
    have h1 := tk_code (val (xs.take (i + 1))) []
    rw [List.append_nil, h] at h1
    have h2 : takes (xs.take (i + 1)) = none := takes_zero (i := i) (x := x) (by rw [List.take_take, Nat.min_eq_left (by omega)]; exact hp) hi (by rw [List.getElem?_take, if_pos (by omega)]; exact hx) h0 hz
    unfold takes at h2
    rw [List.take_take, Nat.min_eq_right (by omega), h1] at h2
    cases h2
  · intro h
    exact (takes_some (takes_at hp hi hx hl h)).2.2.2.2

theorem val_take_lt (xs : List UInt8) (i : Nat) (h : i ≤ 9) : val (xs.take i) < 9223372036854775808 := by
  have h1 := val_lt (xs.take i)
  have h2 : 128 ^ (xs.take i).length ≤ 128 ^ 9 := Nat.pow_le_pow_right (by omega) (by simp; omega)
  have e : (128 : Nat) ^ 9 = 9223372036854775808 := by decide
  omega

/-- A digit is laid in by OR. -/
theorem val_or (xs : List UInt8) (i d : Nat) : val (xs.take i) ||| d <<< (7 * i) = val (xs.take i) + d * 128 ^ i := by
  have h1 := val_lt (xs.take i)
  have h2 : 128 ^ (xs.take i).length ≤ 128 ^ i := Nat.pow_le_pow_right (by omega) (by simp; omega)
  have e : (128 : Nat) ^ i = 2 ^ (7 * i) := by rw [Nat.pow_mul]
  have h3 : val (xs.take i) < 2 ^ (7 * i) := by rw [← e]; omega
  rw [Nat.or_comm, ← Nat.shiftLeft_add_eq_or_of_lt h3, Nat.shiftLeft_eq, e, Nat.add_comm]

/-! ### Codes, one behind the other -/

theorem codes_one {z : Int} (h : 0 ≤ z) : codes [z] = code z.toNat := by
  simp only [codes, List.append_nil]
  rw [if_neg (by omega)]

theorem codes_snoc : ∀ (zs : List Int) (z : Int), codes (zs ++ [z]) = codes zs ++ (if z < 0 then [] else code z.toNat)
  | [], z => by simp [codes]
  | y :: zs, z => by simp only [List.cons_append, codes, codes_snoc zs z, List.append_assoc]

theorem codes_len : ∀ (zs : List Int), (∀ z ∈ zs, z ≤ 9223372036854775807) → (codes zs).length ≤ 9 * zs.length
  | [], _ => by simp [codes]
  | z :: zs, h => by
    have ih := codes_len zs (fun y hy => h y (by simp [hy]))
    have hz := h z (by simp)
    simp only [codes, List.length_append, List.length_cons]
    by_cases hn : z < 0
    · rw [if_pos hn]; simp; omega
    · rw [if_neg hn]
      have := code_len9 z.toNat (by omega)
      omega

/-! ### Four bytes -/

/-- The four bytes of a number. -/
def fx (n : Nat) : List UInt8 := [UInt8.ofNat n, UInt8.ofNat (n / 256), UInt8.ofNat (n / 65536), UInt8.ofNat (n / 16777216)]

/-- The number of the first k of them. -/
def fk (xs : List UInt8) : Nat → Nat
  | 0 => 0
  | k + 1 => fk xs k + (xs.getD k 0).toNat * 256 ^ k

theorem fk_lt (xs : List UInt8) : ∀ k, fk xs k < 256 ^ k
  | 0 => by simp [fk]
  | k + 1 => by
    have h := fk_lt xs k
    have hx := (xs.getD k 0).toNat_lt
    simp only [fk, Nat.pow_succ]
    have : (xs.getD k 0).toNat * 256 ^ k ≤ 255 * 256 ^ k := Nat.mul_le_mul_right _ (by omega)
    omega

theorem fk_or (xs : List UInt8) (k d : Nat) : fk xs k ||| d <<< (8 * k) = fk xs k + d * 256 ^ k := by
  have h1 := fk_lt xs k
  have e : (256 : Nat) ^ k = 2 ^ (8 * k) := by rw [Nat.pow_mul]
  rw [e] at h1
  rw [Nat.or_comm, ← Nat.shiftLeft_add_eq_or_of_lt h1, Nat.shiftLeft_eq, e, Nat.add_comm]

theorem fk_fx (n : Nat) (h : n < 4294967296) (rest : List UInt8) : fk (fx n ++ rest) 4 = n := by
  simp [fk, fx, UInt8.toNat_ofNat']
  omega

end Go.Proofs.Yteonjdigcecceaa.Wire
