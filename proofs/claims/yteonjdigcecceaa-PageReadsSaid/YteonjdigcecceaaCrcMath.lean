/-
  Plain mathematics of the cyclic sum of layer 1: one step on 32 bits, the sum of a list of bytes; that the steps are linear and lose nothing; no program is named here.
-/
namespace Go.Proofs.Yteonjdigcecceaa.Crc

/-- One step: shifted right by one bit, and the polynomial laid over it if the lowest bit was one. -/
def step (c : BitVec 32) : BitVec 32 := if c.getLsbD 0 then (c >>> 1) ^^^ 0xEDB88320#32 else c >>> 1

def steps : Nat → BitVec 32 → BitVec 32
  | 0, c => c
  | n + 1, c => steps n (step c)

def wide (x : UInt8) : BitVec 32 := x.toBitVec.setWidth 32

def byte (c : BitVec 32) (x : UInt8) : BitVec 32 := steps 8 (c ^^^ wide x)

def run (c : BitVec 32) : List UInt8 → BitVec 32
  | [] => c
  | x :: xs => run (byte c x) xs

def add (s : BitVec 32) (xs : List UInt8) : BitVec 32 := ~~~ (run (~~~ s) xs)

def sum (xs : List UInt8) : BitVec 32 := add 0#32 xs

theorem run_append (xs ys : List UInt8) : ∀ c, run c (xs ++ ys) = run (run c xs) ys := by
  induction xs with
  | nil => intro c; rfl
  | cons x xs ih => intro c; exact ih _

theorem run_snoc (c : BitVec 32) (xs : List UInt8) (x : UInt8) : run c (xs ++ [x]) = byte (run c xs) x := by
  rw [run_append]; rfl

theorem add_append (s : BitVec 32) (xs ys : List UInt8) : add (add s xs) ys = add s (xs ++ ys) := by
  unfold add
  rw [BitVec.not_not, run_append]

theorem add_nil (s : BitVec 32) : add s [] = s := by
  unfold add run
  rw [BitVec.not_not]

theorem steps_add (m : Nat) : ∀ n c, steps (n + m) c = steps m (steps n c) := by
  intro n
  induction n with
  | zero => intro c; rw [Nat.zero_add]; rfl
  | succ n ih => intro c; rw [Nat.add_right_comm]; exact ih _

theorem steps_snoc (n : Nat) (c : BitVec 32) : steps (n + 1) c = step (steps n c) := steps_add 1 n c

theorem step_xor (a b : BitVec 32) : step (a ^^^ b) = step a ^^^ step b := by
  unfold step
  rw [BitVec.getLsbD_xor, BitVec.ushiftRight_xor_distrib]
  cases a.getLsbD 0 <;> cases b.getLsbD 0
  · simp
  · simp [BitVec.xor_assoc]
  · simp only [Bool.xor_false, Bool.false_eq_true, if_false, if_true]
    rw [BitVec.xor_assoc, BitVec.xor_assoc, BitVec.xor_comm (b >>> 1)]
  · simp only [Bool.xor_true, Bool.not_true, Bool.false_eq_true, if_false, if_true]
    rw [BitVec.xor_assoc (a >>> 1), BitVec.xor_comm (0xEDB88320#32) _, BitVec.xor_assoc (b >>> 1), BitVec.xor_self, BitVec.xor_zero]

theorem steps_xor : ∀ (n : Nat) (a b : BitVec 32), steps n (a ^^^ b) = steps n a ^^^ steps n b
  | 0, _, _ => rfl
  | n + 1, a, b => by
    show steps n (step (a ^^^ b)) = steps n (step a) ^^^ steps n (step b)
    rw [step_xor, steps_xor n]

theorem step_zero : step 0#32 = 0#32 := by decide
theorem steps_zero : ∀ n, steps n 0#32 = 0#32
  | 0 => rfl
  | n + 1 => by
    show steps n (step 0#32) = _
    rw [step_zero, steps_zero n]

theorem step_of_zero (a : BitVec 32) (h : step a = 0#32) : a = 0#32 := by
  unfold step at h
  split at h
  · have e := congrArg (fun v : BitVec 32 => v.getLsbD 31) h
    simp at e
  · rename_i h0
    have e := congrArg BitVec.toNat h
    rw [BitVec.toNat_ushiftRight, Nat.shiftRight_eq_div_pow] at e
    have h1 : a.getLsbD 0 = decide (a.toNat % 2 = 1) := by
      rw [BitVec.getLsbD, Nat.testBit_zero]
    rw [h1, decide_eq_true_eq] at h0
    apply BitVec.eq_of_toNat_eq
    simp at e ⊢
    omega

theorem steps_of_zero : ∀ (n : Nat) (a : BitVec 32), steps n a = 0#32 → a = 0#32
  | 0, _, h => h
  | n + 1, a, h => step_of_zero a (steps_of_zero n (step a) h)

theorem xor_eq_zero {a b : BitVec 32} (h : a ^^^ b = 0#32) : a = b := by
  have e : a ^^^ b ^^^ b = 0#32 ^^^ b := by rw [h]
  rwa [BitVec.xor_assoc, BitVec.xor_self, BitVec.xor_zero, BitVec.zero_xor] at e

/-- What is unlike ahead of a list of bytes is unlike behind it. -/
theorem run_inj (xs : List UInt8) : ∀ a b, run a xs = run b xs → a = b := by
  induction xs with
  | nil => intro a b h; exact h
  | cons x xs ih =>
    intro a b h
    have h1 := ih _ _ h
    unfold byte at h1
    have h2 : steps 8 ((a ^^^ wide x) ^^^ (b ^^^ wide x)) = 0#32 := by rw [steps_xor, h1, BitVec.xor_self]
    have h3 := xor_eq_zero (steps_of_zero 8 _ h2)
    have h4 : a ^^^ wide x ^^^ wide x = b ^^^ wide x ^^^ wide x := by rw [h3]
    rwa [BitVec.xor_assoc, BitVec.xor_assoc, BitVec.xor_self, BitVec.xor_zero, BitVec.xor_zero] at h4

theorem not_inj {a b : BitVec 32} (h : ~~~ a = ~~~ b) : a = b := by
  rw [← BitVec.not_not (b := a), h, BitVec.not_not]

/-- Texts laid over one another, three at a time. -/
def lay : List UInt8 → List UInt8 → List UInt8 → List UInt8
  | x :: xs, y :: ys, z :: zs => (x ^^^ y ^^^ z) :: lay xs ys zs
  | _, _, _ => []

theorem wide_xor (x y : UInt8) : wide (x ^^^ y) = wide x ^^^ wide y := by
  unfold wide
  rw [UInt8.toBitVec_xor, BitVec.setWidth_xor]

theorem byte_lay (a b c : BitVec 32) (x y z : UInt8) : byte (a ^^^ b ^^^ c) (x ^^^ y ^^^ z) = byte a x ^^^ byte b y ^^^ byte c z := by
  unfold byte
  rw [← steps_xor, ← steps_xor, wide_xor, wide_xor]
  congr 1
  ac_rfl

theorem run_lay : ∀ (n : Nat) (xs ys zs : List UInt8), xs.length = n → ys.length = n → zs.length = n → ∀ a b c : BitVec 32,
    run (a ^^^ b ^^^ c) (lay xs ys zs) = run a xs ^^^ run b ys ^^^ run c zs := by
  intro n
  induction n with
  | zero =>
    intro xs ys zs h1 h2 h3 a b c
    rw [List.eq_nil_of_length_eq_zero h1, List.eq_nil_of_length_eq_zero h2, List.eq_nil_of_length_eq_zero h3]
    rfl
  | succ n ih =>
    intro xs ys zs h1 h2 h3 a b c
    match xs, ys, zs, h1, h2, h3 with
    | x :: xs, y :: ys, z :: zs, h1, h2, h3 =>
      show run (byte (a ^^^ b ^^^ c) (x ^^^ y ^^^ z)) (lay xs ys zs) = _
      rw [byte_lay]
      exact ih xs ys zs (by simpa using h1) (by simpa using h2) (by simpa using h3) _ _ _

theorem not_xor_three (a b c : BitVec 32) : ~~~ (a ^^^ b ^^^ c) = ~~~ a ^^^ ~~~ b ^^^ ~~~ c := by
  ext i hi
  simp

/-- P1.2: the sums' XOR is the sum of the texts laid over one another. -/
theorem sum_lay (xs ys zs : List UInt8) (h1 : ys.length = xs.length) (h2 : zs.length = xs.length) : sum (lay xs ys zs) = sum xs ^^^ sum ys ^^^ sum zs := by
  unfold sum add
  rw [← not_xor_three, ← run_lay xs.length xs ys zs rfl h1 h2]
  rfl

theorem wide_inj {x y : UInt8} (h : wide x = wide y) : x = y := by
  have e := congrArg BitVec.toNat h
  unfold wide at e
  rw [BitVec.toNat_setWidth, BitVec.toNat_setWidth] at e
  have h1 := x.toBitVec.isLt
  have h2 := y.toBitVec.isLt
  rw [Nat.mod_eq_of_lt (by omega), Nat.mod_eq_of_lt (by omega)] at e
  exact UInt8.toBitVec_inj.1 (BitVec.eq_of_toNat_eq e)

theorem steps_inj (n : Nat) {a b : BitVec 32} (h : steps n a = steps n b) : a = b :=
  xor_eq_zero (steps_of_zero n _ (by rw [steps_xor, h, BitVec.xor_self]))

theorem byte_ne (c : BitVec 32) {x y : UInt8} (h : x ≠ y) : byte c x ≠ byte c y := fun e => by
  have h1 := steps_inj 8 e
  have h2 : c ^^^ (c ^^^ wide x) = c ^^^ (c ^^^ wide y) := by rw [h1]
  rw [← BitVec.xor_assoc, ← BitVec.xor_assoc, BitVec.xor_self, BitVec.zero_xor, BitVec.zero_xor] at h2
  exact h (wide_inj h2)

/-- P1.2, one byte: whatever stands ahead and behind. -/
theorem sum_ne_one (xs zs : List UInt8) {x y : UInt8} (h : x ≠ y) : sum (xs ++ [x] ++ zs) ≠ sum (xs ++ [y] ++ zs) := fun e => by
  unfold sum add at e
  have e1 := not_inj e
  rw [run_append _ zs, run_append _ zs] at e1
  have e2 := run_inj _ _ _ e1
  rw [run_snoc, run_snoc] at e2
  exact byte_ne _ h e2

theorem step_shl (y : BitVec 32) (h : y.toNat < 2 ^ 31) : step (y <<< 1) = y := by
  have h0 : (y <<< 1).getLsbD 0 = false := by simp
  unfold step
  rw [h0, if_neg (by simp)]
  apply BitVec.eq_of_toNat_eq
  rw [BitVec.toNat_ushiftRight, BitVec.toNat_shiftLeft, Nat.shiftLeft_eq, Nat.shiftRight_eq_div_pow]
  omega

theorem steps_shl : ∀ (n : Nat) (y : BitVec 32), n ≤ 32 → y.toNat < 2 ^ (32 - n) → steps n (y <<< n) = y
  | 0, y, _, _ => by rw [BitVec.shiftLeft_zero]; rfl
  | n + 1, y, hn, h => by
    have hp : 2 ^ (32 - (n + 1)) * 2 ^ n = 2 ^ 31 := by rw [← Nat.pow_add]; congr 1; omega
    have hlt : y.toNat * 2 ^ n < 2 ^ 31 := by
      rw [← hp]
      exact Nat.mul_lt_mul_of_pos_right h (Nat.two_pow_pos n)
    have e : y <<< (n + 1) = (y <<< n) <<< 1 := by rw [BitVec.shiftLeft_add]
    show steps n (step (y <<< (n + 1))) = y
    rw [e, step_shl]
    · refine steps_shl n y (by omega) (Nat.lt_of_lt_of_le h (Nat.pow_le_pow_right (by omega) (by omega)))
    · rw [BitVec.toNat_shiftLeft, Nat.shiftLeft_eq, Nat.mod_eq_of_lt (by omega)]
      exact hlt

theorem wide_lt (x : UInt8) : (wide x).toNat < 256 := by
  unfold wide
  rw [BitVec.toNat_setWidth]
  have := x.toBitVec.isLt
  omega

/-- The byte of a number from its bit 8 i on. -/
def part (t : BitVec 32) (i : Nat) : UInt8 := ⟨(t >>> (8 * i)).setWidth 8⟩

theorem parts_all (t : BitVec 32) : wide (part t 0) ^^^ wide (part t 1) <<< 8 ^^^ wide (part t 2) <<< 16 ^^^ wide (part t 3) <<< 24 = t := by
  unfold wide part
  ext i hi
  simp only [BitVec.getElem_xor, BitVec.getElem_shiftLeft, BitVec.getElem_setWidth, BitVec.getLsbD_setWidth, BitVec.getLsbD_ushiftRight, Nat.mul_zero, Nat.zero_add, Nat.mul_one]
  have h1 : t[i] = t.getLsbD i := by rw [BitVec.getLsbD_eq_getElem]
  rw [h1]
  rcases Nat.lt_or_ge i 8 with a | a
  · simp [a, show i < 16 by omega, show i < 24 by omega]
  · rcases Nat.lt_or_ge i 16 with b | b
    · simp [show ¬ i < 8 by omega, b, show i < 24 by omega, show i - 8 < 8 by omega, show 8 + (i - 8) = i by omega]
    · rcases Nat.lt_or_ge i 24 with d | d
      · simp [show ¬ i < 8 by omega, show ¬ i < 16 by omega, d, show ¬ i - 8 < 8 by omega, show i - 16 < 8 by omega, show 8 * 2 + (i - 16) = i by omega]
      · simp [show ¬ i < 8 by omega, show ¬ i < 16 by omega, show ¬ i < 24 by omega, show ¬ i - 8 < 8 by omega, show ¬ i - 16 < 8 by omega, show i - 24 < 8 by omega, show 8 * 3 + (i - 24) = i by omega]

theorem four_zero (t : BitVec 32) : run 0#32 [part t 0, part t 1, part t 2, part t 3] = steps 32 t := by
  have e1 : wide (part t 1) = steps 8 (wide (part t 1) <<< 8) := (steps_shl 8 _ (by omega) (by have := wide_lt (part t 1); omega)).symm
  have e2 : wide (part t 2) = steps 16 (wide (part t 2) <<< 16) := (steps_shl 16 _ (by omega) (by have := wide_lt (part t 2); omega)).symm
  have e3 : wide (part t 3) = steps 24 (wide (part t 3) <<< 24) := (steps_shl 24 _ (by omega) (by have := wide_lt (part t 3); omega)).symm
  have a1 : byte 0#32 (part t 0) = steps 8 (wide (part t 0)) := by unfold byte; rw [BitVec.zero_xor]
  have a2 : byte (byte 0#32 (part t 0)) (part t 1) = steps 16 (wide (part t 0) ^^^ wide (part t 1) <<< 8) := by
    rw [a1]; unfold byte; rw [e1, ← steps_xor, ← steps_add, ← e1]
  have a3 : byte (byte (byte 0#32 (part t 0)) (part t 1)) (part t 2) = steps 24 (wide (part t 0) ^^^ wide (part t 1) <<< 8 ^^^ wide (part t 2) <<< 16) := by
    rw [a2]; unfold byte; rw [e2, ← steps_xor, ← steps_add, ← e2]
  have a4 : byte (byte (byte (byte 0#32 (part t 0)) (part t 1)) (part t 2)) (part t 3) = steps 32 (wide (part t 0) ^^^ wide (part t 1) <<< 8 ^^^ wide (part t 2) <<< 16 ^^^ wide (part t 3) <<< 24) := by
    rw [a3]; unfold byte; rw [e3, ← steps_xor, ← steps_add, ← e3]
  show byte (byte (byte (byte 0#32 (part t 0)) (part t 1)) (part t 2)) (part t 3) = _
  rw [a4, parts_all]

theorem byte_two (a b : BitVec 32) (x y : UInt8) : byte (a ^^^ b) (x ^^^ y) = byte a x ^^^ byte b y := by
  unfold byte
  rw [← steps_xor, wide_xor]
  congr 1
  ac_rfl

theorem four_turned (c t : BitVec 32) (x0 x1 x2 x3 : UInt8) :
    run c [x0 ^^^ part t 0, x1 ^^^ part t 1, x2 ^^^ part t 2, x3 ^^^ part t 3] = run c [x0, x1, x2, x3] ^^^ steps 32 t := by
  rw [← four_zero]
  show byte (byte (byte (byte c (x0 ^^^ part t 0)) (x1 ^^^ part t 1)) (x2 ^^^ part t 2)) (x3 ^^^ part t 3) = byte (byte (byte (byte c x0) x1) x2) x3 ^^^ byte (byte (byte (byte 0#32 (part t 0)) (part t 1)) (part t 2)) (part t 3)
  rw [← byte_two, ← byte_two, ← byte_two, ← byte_two, BitVec.xor_zero]

/-- P1.2, four bytes: whatever stands ahead and behind. -/
theorem sum_ne_four (xs zs : List UInt8) (x0 x1 x2 x3 : UInt8) (t : BitVec 32) (ht : t ≠ 0#32) :
    sum (xs ++ [x0 ^^^ part t 0, x1 ^^^ part t 1, x2 ^^^ part t 2, x3 ^^^ part t 3] ++ zs) ≠ sum (xs ++ [x0, x1, x2, x3] ++ zs) := fun e => by
  unfold sum add at e
  have e1 := not_inj e
  rw [run_append, run_append, run_append, run_append] at e1
  have e2 := run_inj _ _ _ e1
  rw [four_turned] at e2
  apply ht
  apply steps_of_zero 32
  have e3 : ∀ u v : BitVec 32, u ^^^ v = u → v = 0#32 := fun u v h => by
    have : u ^^^ (u ^^^ v) = u ^^^ u := by rw [h]
    rwa [← BitVec.xor_assoc, BitVec.xor_self, BitVec.zero_xor] at this
  exact e3 _ _ e2

/-! The document's own division, the highest bit first. -/

def rstep (r : BitVec 32) (bit : Bool) : BitVec 32 := if r.getLsbD 31 != bit then (r <<< 1) ^^^ 0x04C11DB7#32 else r <<< 1

def rbits (r : BitVec 32) (x : UInt8) : Nat → BitVec 32
  | 0 => r
  | k + 1 => rstep (rbits r x k) (x.toBitVec.getLsbD k)

def rrun (r : BitVec 32) : List UInt8 → BitVec 32
  | [] => r
  | x :: xs => rrun (rbits r x 8) xs

theorem rrun_snoc (xs : List UInt8) (x : UInt8) : ∀ r, rrun r (xs ++ [x]) = rbits (rrun r xs) x 8 := by
  induction xs with
  | nil => intro r; rfl
  | cons y ys ih => intro r; exact ih _

def radd (s : BitVec 32) (xs : List UInt8) : BitVec 32 := ~~~ (rrun (~~~ s).reverse xs).reverse

theorem reverse_xor (a b : BitVec 32) : (a ^^^ b).reverse = a.reverse ^^^ b.reverse := by
  ext i hi
  simp [BitVec.getElem_reverse]

theorem reverse_shr (a : BitVec 32) : (a >>> 1).reverse = a.reverse <<< 1 := by
  apply BitVec.eq_of_getLsbD_eq
  intro i hi
  rw [BitVec.getLsbD_reverse, BitVec.getLsbD_shiftLeft, BitVec.getMsbD_ushiftRight, BitVec.getLsbD_reverse]
  rcases Nat.eq_zero_or_pos i with h | h
  · subst h; simp
  · simp [hi, show ¬ i < 1 by omega]

def one (bit : Bool) : BitVec 32 := if bit then 1#32 else 0#32

theorem rstep_reverse (c : BitVec 32) (bit : Bool) : rstep c.reverse bit = (step (c ^^^ one bit)).reverse := by
  have h0 : c.reverse.getLsbD 31 = c.getLsbD 0 := by
    rw [BitVec.getLsbD_reverse]; simp [BitVec.getMsbD]
  have h1 : (c ^^^ one bit).getLsbD 0 = (c.getLsbD 0 != bit) := by
    rw [BitVec.getLsbD_xor]; unfold one; cases bit <;> simp
  have h2 : (c ^^^ one bit) >>> 1 = c >>> 1 := by
    rw [BitVec.ushiftRight_xor_distrib]
    have : one bit >>> 1 = 0#32 := by unfold one; cases bit <;> decide
    rw [this, BitVec.xor_zero]
  have h3 : (0xEDB88320#32).reverse = 0x04C11DB7#32 := by decide +kernel
  unfold rstep step
  rw [h0, h1, h2]
  by_cases h : (c.getLsbD 0 != bit) = true
  · rw [if_pos h, if_pos h, reverse_xor, reverse_shr, h3]
  · rw [if_neg h, if_neg h, reverse_shr]

def cbits (c : BitVec 32) (x : UInt8) : Nat → BitVec 32
  | 0 => c
  | k + 1 => step (cbits c x k ^^^ one (x.toBitVec.getLsbD k))

theorem rbits_reverse (c : BitVec 32) (x : UInt8) : ∀ k, rbits c.reverse x k = (cbits c x k).reverse
  | 0 => rfl
  | k + 1 => by
    show rstep (rbits c.reverse x k) _ = _
    rw [rbits_reverse c x k, rstep_reverse]
    rfl

theorem wide_cut (x : UInt8) (k : Nat) : wide x >>> k = one (x.toBitVec.getLsbD k) ^^^ (wide x >>> (k + 1)) <<< 1 := by
  apply BitVec.eq_of_getLsbD_eq
  intro i hi
  rw [BitVec.getLsbD_xor, BitVec.getLsbD_shiftLeft, BitVec.getLsbD_ushiftRight, BitVec.getLsbD_ushiftRight]
  unfold wide
  rw [BitVec.getLsbD_setWidth, BitVec.getLsbD_setWidth]
  rcases Nat.eq_zero_or_pos i with h | h
  · subst h
    by_cases hk : k < 32
    · unfold one; cases x.toBitVec.getLsbD k <;> simp [hk]
    · have : x.toBitVec.getLsbD k = false := BitVec.getLsbD_of_ge _ _ (by omega)
      simp [this, one]
  · have h1 : (one (x.toBitVec.getLsbD k)).getLsbD i = false := by
      unfold one
      split
      · simp; omega
      · simp
    rw [h1]
    simp [hi, show ¬ i < 1 by omega, show k + 1 + (i - 1) = k + i by omega]

theorem steps_bits (c : BitVec 32) (x : UInt8) : ∀ k, steps k (c ^^^ wide x) = cbits c x k ^^^ (wide x >>> k)
  | 0 => by rw [BitVec.ushiftRight_zero]; rfl
  | k + 1 => by
    rw [steps_snoc, steps_bits c x k, wide_cut x k, ← BitVec.xor_assoc, step_xor, step_shl]
    · rfl
    · rw [BitVec.toNat_ushiftRight, Nat.shiftRight_eq_div_pow]
      have := wide_lt x
      exact Nat.lt_of_le_of_lt (Nat.div_le_self _ _) (by omega)

theorem byte_bits (c : BitVec 32) (x : UInt8) : byte c x = cbits c x 8 := by
  unfold byte
  rw [steps_bits]
  have : wide x >>> 8 = 0#32 := by
    apply BitVec.eq_of_toNat_eq
    rw [BitVec.toNat_ushiftRight, Nat.shiftRight_eq_div_pow]
    have := wide_lt x
    simp
    omega
  rw [this, BitVec.xor_zero]

theorem rrun_reverse (xs : List UInt8) : ∀ c : BitVec 32, rrun c.reverse xs = (run c xs).reverse := by
  induction xs with
  | nil => intro c; rfl
  | cons x xs ih =>
    intro c
    show rrun (rbits c.reverse x 8) xs = (run (byte c x) xs).reverse
    rw [rbits_reverse, ← byte_bits, ih]

theorem reverse_reverse (c : BitVec 32) : c.reverse.reverse = c := by
  ext i hi
  simp

/-- P1.1: the document's division tells the same sum. -/
theorem radd_add (s : BitVec 32) (xs : List UInt8) : radd s xs = add s xs := by
  unfold radd add
  rw [rrun_reverse, reverse_reverse]

/-- The bits turned round, one by one. -/
def tpart (n : BitVec 32) : Nat → BitVec 32
  | 0 => 0#32
  | i + 1 => if n.getLsbD i then tpart n i ||| (1#32 <<< (31 - i)) else tpart n i

theorem tpart_bit (n : BitVec 32) : ∀ i, i ≤ 32 → ∀ j, j < 32 → (tpart n i).getLsbD j = (decide (31 - j < i) && n.getLsbD (31 - j))
  | 0, _, j, _ => by simp [tpart]
  | i + 1, hi, j, hj => by
    have ih := tpart_bit n i (by omega) j hj
    by_cases e : 31 - j = i
    · subst e
      have hs : (1#32 <<< (31 - (31 - j))).getLsbD j = true := by
        rw [show 31 - (31 - j) = j by omega]
        simp [hj]
      unfold tpart
      split
      · rename_i h
        rw [BitVec.getLsbD_or, hs, h]; simp
      · rename_i h
        rw [ih]
        simp at h
        simp [h]
    · have hs : (1#32 <<< (31 - i)).getLsbD j = false := by
        rw [BitVec.getLsbD_shiftLeft]
        by_cases hlt : j < 31 - i
        · simp [hlt]
        · simp [hlt, hj]
          omega
      have hd : decide (31 - j < i + 1) = decide (31 - j < i) := by
        rw [decide_eq_decide]; omega
      unfold tpart
      rw [hd]
      split
      · rw [BitVec.getLsbD_or, hs, Bool.or_false, ih]
      · exact ih

theorem tpart_all (n : BitVec 32) : tpart n 32 = n.reverse := by
  apply BitVec.eq_of_getLsbD_eq
  intro i hi
  rw [tpart_bit n 32 (by omega) i hi, BitVec.getLsbD_reverse, BitVec.getMsbD]
  simp [hi, show 31 - i < 32 by omega]

end Go.Proofs.Yteonjdigcecceaa.Crc
