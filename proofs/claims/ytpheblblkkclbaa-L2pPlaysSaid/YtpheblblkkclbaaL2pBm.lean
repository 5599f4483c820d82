/-
  Which addresses of a line have a sector, as a bitmap; how many: plain mathematics. Nothing of the program's code is named here.
-/
import Derived.Test.YtpheblblkkclbaaL2pMath
import Derived.Test.YtpheblblkkclbaaBitsMath
namespace Go.Proofs.Ytpheblblkkclbaa

/-- Bitmaps of one length with the same bits are one. -/
theorem Bits.ext {xs ys : List UInt8} (hl : xs.length = ys.length) (h : ∀ i, i < 8 * xs.length → Bits.bit xs i = Bits.bit ys i) : xs = ys := by
  apply List.ext_getElem hl
  intro i h1 h2
  apply UInt8.toNat_inj.1
  apply Nat.eq_of_testBit_eq
  intro j
  by_cases hj : j < 8
  · have e := h (8 * i + j) (by omega)
    rw [Bits.bit_at (x := xs[i]) (by rw [show (8 * i + j) / 8 = i by omega]; exact List.getElem?_eq_getElem h1), Bits.bit_at (x := ys[i]) (by rw [show (8 * i + j) / 8 = i by omega]; exact List.getElem?_eq_getElem h2), show (8 * i + j) % 8 = j by omega] at e
    exact e
  · have hp : ∀ x : UInt8, x.toNat < 2 ^ j := fun x => Nat.lt_of_lt_of_le x.toNat_lt (Nat.pow_le_pow_right (by omega) (show 8 ≤ j by omega))
    rw [Nat.testBit_lt_two_pow (hp _), Nat.testBit_lt_two_pow (hp _)]

theorem Bits.bit_zeros (m i : Nat) : Bits.bit (List.replicate m 0) i = false := by
  by_cases h : 8 * m ≤ i
  · exact Bits.bit_past (by simpa using h)
  · rw [Bits.bit_at (x := 0) (by rw [List.getElem?_replicate, if_pos (by omega)])]
    simp

namespace L2p

/-- The bitmap of m bytes of the first k addresses from b on. -/
def bm (st : St) (n : Nat) (b : Int) (m : Nat) : Nat → List UInt8
  | 0 => List.replicate m 0
  | k + 1 => if who st n (b + k) = -1 then bm st n b m k else Bits.put_at (bm st n b m k) k true

theorem bm_len (st : St) (n : Nat) (b : Int) (m k : Nat) : (bm st n b m k).length = m := by
  induction k with
  | zero => simp [bm]
  | succ k ih =>
    unfold bm
    split
    · exact ih
    · rw [Bits.put_at_length, ih]

theorem bm_bit (st : St) (n : Nat) (b : Int) (m k : Nat) (hk : k ≤ 8 * m) (i : Nat) : Bits.bit (bm st n b m k) i = decide (i < k ∧ who st n (b + i) ≠ -1) := by
  induction k with
  | zero =>
    rw [show bm st n b m 0 = List.replicate m 0 from rfl, Bits.bit_zeros]
    simp
  | succ k ih =>
    have ih := ih (by omega)
    unfold bm
    by_cases e : i = k
    · subst e
      split
      · rename_i h
        rw [ih]
        simp [h]
      · rename_i h
        rw [Bits.bit_put_same (by rw [bm_len]; omega)]
        simp [h]
    · have e2 : (i < k + 1 ∧ who st n (b + i) ≠ -1) ↔ (i < k ∧ who st n (b + i) ≠ -1) := by
        constructor
        · exact fun h => ⟨by omega, h.2⟩
        · exact fun h => ⟨by omega, h.2⟩
      rw [decide_eq_decide.2 e2, ← ih]
      split
      · rfl
      · exact Bits.bit_put_other e true

theorem ons_valid (xs : List UInt8) (st : St) (n : Nat) (b : Int) (k : Nat) (h : ∀ i, i < k → Bits.bit xs i = decide (who st n (b + i) ≠ -1)) : (Bits.ons xs k).length = valid st n b k := by
  induction k with
  | zero => rfl
  | succ k ih =>
    have hk := h k (by omega)
    have ih := ih fun i hi => h i (by omega)
    unfold valid
    by_cases e : who st n (b + k) = -1
    · rw [if_pos e, Bits.ons_off (by rw [hk]; simp [e]), ih]
      rfl
    · rw [if_neg e, Bits.ons_on (by rw [hk]; simp [e]), List.length_append, ih]
      rfl

theorem ons_bm (st : St) (n : Nat) (b : Int) (m k : Nat) (hk : k ≤ 8 * m) : (Bits.ons (bm st n b m k) (8 * m)).length = valid st n b k := by
  rw [Bits.ons_same hk (fun i h1 _ => by rw [bm_bit st n b m k hk]; simp; omega)]
  exact ons_valid _ st n b k fun i hi => by rw [bm_bit st n b m k hk]; simp [hi]

theorem valid_succ (st : St) (n : Nat) (b : Int) (m : Nat) : valid st n b (m + 1) = valid st n b m + if who st n (b + m) = -1 then 0 else 1 := rfl
theorem many_succ (st : St) (n : Nat) : many st (n + 1) = many st n + if (st n).a = -1 then 0 else 1 := rfl

theorem valid_add (st : St) (n : Nat) (b : Int) (i j : Nat) : valid st n b (i + j) = valid st n b i + valid st n (b + i) j := by
  induction j with
  | zero => rfl
  | succ j ih =>
    rw [show i + (j + 1) = (i + j) + 1 by omega, valid_succ, valid_succ, ih, show b + ((i + j : Nat) : Int) = b + i + j by omega]
    omega

theorem valid_zero (st : St) (b : Int) (m : Nat) : valid st 0 b m = 0 := by
  induction m with
  | zero => rfl
  | succ m ih =>
    unfold valid
    rw [ih]
    rfl

theorem valid_more (st : St) (n : Nat) (h : ∀ i, i < n → (st i).a = (st n).a → (st n).a < 0) (m : Nat) : valid st (n + 1) 0 m = valid st n 0 m + if 0 ≤ (st n).a ∧ (st n).a < m then 1 else 0 := by
  induction m with
  | zero =>
    unfold valid
    rw [if_neg (by omega)]
  | succ m ih =>
    rw [valid_succ, valid_succ, ih]
    have hw : who st (n + 1) (0 + m) = if who st n (0 + m) = -1 then (if (st n).a = 0 + m then (n : Int) else -1) else who st n (0 + m) := rfl
    rw [hw]
    by_cases e : (st n).a = 0 + (m : Int)
    · have hn : who st n (0 + m) = -1 := who_none fun i hi h2 => by
        have := h i hi (by rw [h2, e])
        omega
      rw [if_pos hn, if_pos e, if_neg (by omega), if_pos hn, if_neg (by omega), if_pos (by omega)]
    · by_cases hn : who st n (0 + m) = -1
      · rw [if_pos hn, if_neg e, if_pos rfl, if_pos hn]
        by_cases h3 : 0 ≤ (st n).a ∧ (st n).a < m
        · rw [if_pos h3, if_pos (by omega)]
        · rw [if_neg h3, if_neg (by omega)]
      · rw [if_neg hn, if_neg hn]
        by_cases h3 : 0 ≤ (st n).a ∧ (st n).a < m
        · rw [if_pos h3, if_pos (by omega)]
        · rw [if_neg h3, if_neg (by omega)]

/-- As many addresses have a sector as sectors are somewhere. -/
theorem valid_many {st : St} {n : Nat} {N : Nat} (h : Inv st n N) : valid st n 0 N = many st n := by
  induction n with
  | zero => rw [valid_zero]; rfl
  | succ n ih =>
    have hi : Inv st n N := ⟨fun i hi => h.each i (by omega), fun i j hi hj => h.one i j (by omega) (by omega)⟩
    rw [valid_more st n (fun i hi he => by
      rcases h.a_bd (i := n) (by omega) with ⟨h1, _⟩ | ⟨h1, _, _⟩
      · omega
      · have := h.one i n (by omega) (by omega) he (by omega)
        omega), ih hi, many_succ]
    rcases h.a_bd (i := n) (by omega) with ⟨h1, _⟩ | ⟨h1, h2, _⟩
    · rw [if_neg (by omega), if_pos h1]
    · rw [if_pos (by omega), if_neg (by omega)]

end L2p
end Go.Proofs.Ytpheblblkkclbaa
