/-
  Plain mathematics of bitmaps: a bit of a list of bytes, one bit turned, the list of the bits that are on, the first one from a place on. No program is named here.
-/
namespace Go.Proofs.Ytpheblblkkclbaa.Bits

/-- Bit i of bytes, from 0 on. -/
def bit (xs : List UInt8) (i : Nat) : Bool :=
  match xs[i / 8]? with
  | none => false
  | some x => x.toNat.testBit (i % 8)

/-- Bit i, for any number i. -/
def get (xs : List UInt8) (i : Int) : Bool := decide (0 ≤ i) && bit xs i.toNat

theorem bit_at {xs : List UInt8} {i : Nat} {x : UInt8} (h : xs[i / 8]? = some x) : bit xs i = x.toNat.testBit (i % 8) := by
  simp [bit, h]

theorem bit_past {xs : List UInt8} {i : Nat} (h : 8 * xs.length ≤ i) : bit xs i = false := by
  have h1 : xs[i / 8]? = none := List.getElem?_eq_none (by omega)
  simp [bit, h1]

theorem get_neg {xs : List UInt8} {i : Int} (h : i < 0) : get xs i = false := by
  simp [get, show ¬ 0 ≤ i by omega]

theorem get_past {xs : List UInt8} {i : Int} (h : 8 * (xs.length : Int) ≤ i) : get xs i = false := by
  simp [get, bit_past (show 8 * xs.length ≤ i.toNat by omega)]

theorem get_nat (xs : List UInt8) (i : Nat) : get xs (i : Int) = bit xs i := by simp [get]

/-- What bit i is worth in its byte. -/
def worth (i : Nat) : Nat := 2 ^ (i % 8)

theorem worth_bd (i : Nat) : 1 ≤ worth i ∧ worth i ≤ 128 := by
  have h : (2 : Nat) ^ (i % 8) ≤ 2 ^ 7 := Nat.pow_le_pow_right (by omega) (by omega)
  have h2 : 0 < (2 : Nat) ^ (i % 8) := Nat.pow_pos (by omega)
  unfold worth
  omega

/-- A byte with one bit turned on or off. -/
def put (x : UInt8) (k : Nat) (on : Bool) : UInt8 :=
  UInt8.ofNat (if x.toNat.testBit k = on then x.toNat else if on then x.toNat + 2 ^ k else x.toNat - 2 ^ k)

theorem tests : ∀ (x : Fin 256) (k : Fin 8), x.val &&& 2 ^ k.val = (if x.val.testBit k.val then 2 ^ k.val else 0) ∧
    (x.val / 2 ^ k.val % 2 = if x.val.testBit k.val then 1 else 0) ∧
    (x.val ||| 2 ^ k.val = if x.val.testBit k.val then x.val else x.val + 2 ^ k.val) ∧
    (x.val &&& (255 - 2 ^ k.val) = if x.val.testBit k.val then x.val - 2 ^ k.val else x.val) ∧
    (x.val.testBit k.val = false → x.val + 2 ^ k.val < 256) ∧ (x.val.testBit k.val = true → 2 ^ k.val ≤ x.val) := by decide +kernel

theorem turns : ∀ (x : Fin 256) (k : Fin 8) (on : Bool), ((if x.val.testBit k.val = on then x.val else if on then x.val + 2 ^ k.val else x.val - 2 ^ k.val) < 256) ∧
    (if x.val.testBit k.val = on then x.val else if on then x.val + 2 ^ k.val else x.val - 2 ^ k.val).testBit k.val = on ∧
    (∀ j : Fin 8, j ≠ k → (if x.val.testBit k.val = on then x.val else if on then x.val + 2 ^ k.val else x.val - 2 ^ k.val).testBit j.val = x.val.testBit j.val) := by decide +kernel

theorem put_toNat (x : UInt8) {k : Nat} (hk : k < 8) (on : Bool) : (put x k on).toNat = (if x.toNat.testBit k = on then x.toNat else if on then x.toNat + 2 ^ k else x.toNat - 2 ^ k) := by
  have h := (turns ⟨x.toNat, x.toNat_lt⟩ ⟨k, hk⟩ on).1
  unfold put
  rw [UInt8.toNat_ofNat']
  exact Nat.mod_eq_of_lt h

theorem put_same (x : UInt8) {k : Nat} (hk : k < 8) (on : Bool) : (put x k on).toNat.testBit k = on := by
  rw [put_toNat x hk]
  exact (turns ⟨x.toNat, x.toNat_lt⟩ ⟨k, hk⟩ on).2.1

theorem put_other (x : UInt8) {k j : Nat} (hk : k < 8) (hj : j < 8) (hne : j ≠ k) (on : Bool) : (put x k on).toNat.testBit j = x.toNat.testBit j := by
  rw [put_toNat x hk]
  exact (turns ⟨x.toNat, x.toNat_lt⟩ ⟨k, hk⟩ on).2.2 ⟨j, hj⟩ (by simpa using hne)

theorem put_back (x : UInt8) {k : Nat} (hk : k < 8) : put (put x k (!x.toNat.testBit k)) k (x.toNat.testBit k) = x := by
  apply UInt8.toNat_inj.1
  have ht := (tests ⟨x.toNat, x.toNat_lt⟩ ⟨k, hk⟩).2.2.2.2
  rw [put_toNat _ hk, put_same _ hk, put_toNat _ hk]
  simp only at ht
  cases h : x.toNat.testBit k
  · simp
  · simp [ht.2 h]

/-- Bytes with bit i turned on or off. -/
def put_at (xs : List UInt8) (i : Nat) (on : Bool) : List UInt8 := xs.set (i / 8) (put (xs.getD (i / 8) 0) (i % 8) on)

theorem put_at_length (xs : List UInt8) (i : Nat) (on : Bool) : (put_at xs i on).length = xs.length := by simp [put_at]

theorem put_at_eq {xs : List UInt8} {i : Nat} {x : UInt8} (h : xs[i / 8]? = some x) (on : Bool) : put_at xs i on = xs.set (i / 8) (put x (i % 8) on) := by
  simp [put_at, List.getD, h]

theorem bit_put_same {xs : List UInt8} {i : Nat} (h : i / 8 < xs.length) (on : Bool) : bit (put_at xs i on) i = on := by
  have h1 : (put_at xs i on)[i / 8]? = some (put (xs.getD (i / 8) 0) (i % 8) on) := by simp [put_at, h]
  rw [bit_at h1, put_same _ (by omega)]

theorem bit_put_other {xs : List UInt8} {i j : Nat} (hne : j ≠ i) (on : Bool) : bit (put_at xs i on) j = bit xs j := by
  by_cases h8 : j / 8 = i / 8
  · rcases Nat.lt_or_ge (i / 8) xs.length with h | h
    · have h1 : (put_at xs i on)[j / 8]? = some (put (xs.getD (i / 8) 0) (i % 8) on) := by rw [h8]; simp [put_at, h]
      have h2 : xs[j / 8]? = some (xs.getD (i / 8) 0) := by rw [h8]; simp [List.getD, h]
      rw [bit_at h1, bit_at h2, put_other _ (by omega) (by omega) (by omega)]
    · rw [put_at, List.set_eq_of_length_le h]
  · have h1 : (put_at xs i on)[j / 8]? = xs[j / 8]? := by simp [put_at, Ne.symm h8]
    simp [bit, h1]

theorem put_at_back {xs : List UInt8} {i : Nat} (h : i / 8 < xs.length) : put_at (put_at xs i (!bit xs i)) i (bit xs i) = xs := by
  have h2 : xs[i / 8]? = some (xs[i / 8]) := List.getElem?_eq_getElem h
  have h1 : (put_at xs i (!bit xs i))[i / 8]? = some (put xs[i / 8] (i % 8) (!bit xs i)) := by rw [put_at_eq h2]; simp [h]
  rw [put_at_eq h1, put_at_eq h2, List.set_set, bit_at h2, put_back _ (by omega)]
  simp

/-- The bits that are on below m, in order. -/
def ons (xs : List UInt8) (m : Nat) : List Int := ((List.range m).filter (bit xs)).map Int.ofNat

theorem ons_zero (xs : List UInt8) : ons xs 0 = [] := rfl

theorem ons_on {xs : List UInt8} {m : Nat} (h : bit xs m = true) : ons xs (m + 1) = ons xs m ++ [(m : Int)] := by
  simp [ons, List.range_succ, List.filter_append, h]

theorem ons_off {xs : List UInt8} {m : Nat} (h : bit xs m = false) : ons xs (m + 1) = ons xs m := by
  simp [ons, List.range_succ, List.filter_append, h]

theorem ons_len (xs : List UInt8) (m : Nat) : (ons xs m).length ≤ m := by
  have h := List.length_filter_le (bit xs) (List.range m)
  simpa [ons] using h

theorem ons_same {xs : List UInt8} {a : Nat} : ∀ {m : Nat}, a ≤ m → (∀ i, a ≤ i → i < m → bit xs i = false) → ons xs m = ons xs a
  | 0, h, _ => by rw [show a = 0 by omega]
  | m + 1, h, hf => by
    rcases Nat.lt_or_ge m a with h1 | h1
    · rw [show a = m + 1 by omega]
    · rw [ons_off (hf m h1 (by omega)), ons_same h1 (fun i h2 h3 => hf i h2 (by omega))]

theorem ons_bd {xs : List UInt8} {m : Nat} : ∀ z ∈ ons xs m, 0 ≤ z ∧ z < m := by
  intro z hz
  simp only [ons, List.mem_map, List.mem_filter, List.mem_range] at hz
  obtain ⟨k, ⟨hk, _⟩, rfl⟩ := hz
  simp
  exact hk

/-- r is the first place from a on and below n where p holds, or -1. -/
def First (p : Int → Bool) (a n r : Int) : Prop :=
  (r = -1 ∧ ∀ i, a ≤ i → i < n → p i = false) ∨ (0 ≤ r ∧ a ≤ r ∧ r < n ∧ p r = true ∧ ∀ i, a ≤ i → i < r → p i = false)

theorem First.one {p : Int → Bool} {a n r r' : Int} (h : First p a n r) (h' : First p a n r') : r = r' := by
  rcases h with ⟨e, h⟩ | ⟨h0, h1, h2, h3, h⟩ <;> rcases h' with ⟨e', h'⟩ | ⟨h0', h1', h2', h3', h'⟩
  · omega
  · rw [h r' h1' h2'] at h3'; cases h3'
  · rw [h' r h1 h2] at h3; cases h3
  · rcases Int.lt_trichotomy r r' with hl | hl | hl
    · rw [h' r h1 hl] at h3; cases h3
    · exact hl
    · rw [h r' h1' hl] at h3'; cases h3'

end Go.Proofs.Ytpheblblkkclbaa.Bits
