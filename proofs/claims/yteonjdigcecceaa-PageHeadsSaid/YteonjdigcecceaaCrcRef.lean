/-
  What the document's own answer for the cyclic sum does: one contract a function; it tells the same as package crc's Add.
-/
import Derived.Test.YteonjdigcecceaaCrcWalks
namespace Go.Proofs.Yteonjdigcecceaa
open Go.RowKit

def turnI (c : Int) : Int := un (bv c).reverse

theorem bv_shr (c : Int) (k : Nat) (h0 : 0 ≤ c) (h1 : c < 4294967296) : bv (c / 2 ^ k) = bv c >>> k := by
  obtain ⟨m, rfl⟩ := Int.eq_ofNat_of_zero_le h0
  have e : ((m : Int) / 2 ^ k) = ((m / 2 ^ k : Nat) : Int) := by rw [Int.natCast_ediv]; simp
  have hd : m / 2 ^ k ≤ m := Nat.div_le_self _ _
  have hq : 0 ≤ ((m / 2 ^ k : Nat) : Int) := Int.natCast_nonneg _
  have hq1 : ((m / 2 ^ k : Nat) : Int) < 4294967296 := by
    generalize m / 2 ^ k = q at hd
    omega
  apply BitVec.eq_of_toNat_eq
  rw [e, BitVec.toNat_ushiftRight, Nat.shiftRight_eq_div_pow, bv_toNat _ h0 h1, bv_toNat _ hq hq1, Int.toNat_natCast, Int.toNat_natCast]
theorem bit_at (c : Int) (k : Nat) (h0 : 0 ≤ c) (h1 : c < 4294967296) : (bits .and .u32 (c / 2 ^ k) 1 == 1) = (bv c).getLsbD k := by
  rw [bits_and, bv_shr c k h0 h1, low_bit, BitVec.getLsbD_ushiftRight, Nat.add_zero]
theorem bv_pow (k : Nat) (hk : k < 32) : bv (2 ^ k % 4294967296) = 1#32 <<< k := by
  have hp : 2 ^ k < 2 ^ 32 := Nat.pow_lt_pow_right (by omega) hk
  have e : ((2 : Int) ^ k % 4294967296) = ((2 ^ k : Nat) : Int) := by
    rw [Int.emod_eq_of_lt]
    · simp
    · exact Int.pow_nonneg (by omega)
    · have : ((2 ^ k : Nat) : Int) < ((2 ^ 32 : Nat) : Int) := by exact_mod_cast hp
      simpa using this
  apply BitVec.eq_of_toNat_eq
  rw [e, bv_toNat _ (by omega) (by omega), BitVec.toNat_shiftLeft, Nat.shiftLeft_eq]
  simp only [Int.toNat_natCast]
  rw [show (1#32).toNat = 1 by rfl, Nat.one_mul, Nat.mod_eq_of_lt hp]
theorem turn_yes {c : Int} {k : Nat} (h0 : 0 ≤ c) (h1 : c < 4294967296) (hk : k < 32) (h : (bits .and .u32 (c / 2 ^ k) 1 == 1) = true) :
    bits .or .u32 (un (Crc.tpart (bv c) k)) (2 ^ (31 - k) % 4294967296) = un (Crc.tpart (bv c) (k + 1)) := by
  rw [bit_at c k h0 h1] at h
  rw [bits_or, bv_un, bv_pow _ (by omega)]
  show _ = un (if (bv c).getLsbD k then _ else _)
  rw [if_pos h]
theorem turn_no {c : Int} {k : Nat} (h0 : 0 ≤ c) (h1 : c < 4294967296) (h : (bits .and .u32 (c / 2 ^ k) 1 == 1) = false) :
    un (Crc.tpart (bv c) k) = un (Crc.tpart (bv c) (k + 1)) := by
  rw [bit_at c k h0 h1] at h
  show _ = un (if (bv c).getLsbD k then _ else _)
  rw [if_neg (by rw [h]; exact Bool.false_ne_true)]

theorem top_bit (r : BitVec 32) : un r / 2147483648 = if r.getLsbD 31 then 1 else 0 := by
  unfold un
  rw [BitVec.getLsbD, Nat.testBit_eq_decide_div_mod_eq]
  have := r.isLt
  by_cases h : r.toNat / 2 ^ 31 % 2 = 1
  · simp only [h, decide_true, if_true]; omega
  · simp only [h, decide_false, Bool.false_eq_true, if_false]; omega
theorem byte_bit (x : UInt8) (j : Nat) : bits .and .u8 ((x.toNat : Int) / 2 ^ j) 1 % 4294967296 = if x.toBitVec.getLsbD j then 1 else 0 := by
  have hx := x.toNat_lt
  have e : ((x.toNat : Int) / 2 ^ j) = ((x.toNat / 2 ^ j : Nat) : Int) := by rw [Int.natCast_ediv]; simp
  have hd : x.toNat / 2 ^ j ≤ x.toNat := Nat.div_le_self _ _
  have hb : x.toBitVec.getLsbD j = decide (x.toNat / 2 ^ j % 2 = 1) := by
    rw [BitVec.getLsbD, Nat.testBit_eq_decide_div_mod_eq]
    rfl
  rw [e, hb]
  generalize x.toNat / 2 ^ j = q at hd
  rw [show (1 : Int) = ((1 : Nat) : Int) from rfl, u8_and_nat q 1 (by omega) (by omega), Nat.and_one_is_mod]
  by_cases h : q % 2 = 1
  · simp [h]
  · have h0 : q % 2 = 0 := by omega
    simp [h0]
theorem top_test (r : BitVec 32) (x : UInt8) (j : Nat) : (un r / 2147483648 != bits .and .u8 ((x.toNat : Int) / 2 ^ j) 1 % 4294967296) = (r.getLsbD 31 != x.toBitVec.getLsbD j) := by
  rw [top_bit, byte_bit]
  cases r.getLsbD 31 <;> cases x.toBitVec.getLsbD j <;> rfl
theorem bv_twice (r : BitVec 32) : bv (un r * 2 % 4294967296) = r <<< 1 := by
  apply BitVec.eq_of_toNat_eq
  rw [bv_toNat _ (by omega) (by omega), BitVec.toNat_shiftLeft, Nat.shiftLeft_eq]
  unfold un
  have := r.isLt
  omega
theorem rstep_yes {r : BitVec 32} {x : UInt8} {j : Nat} (h : (un (Crc.rbits r x j) / 2147483648 != bits .and .u8 ((x.toNat : Int) / 2 ^ j) 1 % 4294967296) = true) :
    bits .xor .u32 (un (Crc.rbits r x j) * 2 % 4294967296) 79764919 = un (Crc.rbits r x (j + 1)) := by
  rw [top_test] at h
  rw [bits_xor, bv_twice]
  show _ = un (if _ then _ else _)
  rw [if_pos h]
  rfl
theorem rstep_no {r : BitVec 32} {x : UInt8} {j : Nat} (h : (un (Crc.rbits r x j) / 2147483648 != bits .and .u8 ((x.toNat : Int) / 2 ^ j) 1 % 4294967296) = false) :
    un (Crc.rbits r x j) * 2 % 4294967296 = un (Crc.rbits r x (j + 1)) := by
  rw [top_test] at h
  show _ = un (if _ then _ else _)
  rw [if_neg (by rw [h]; exact Bool.false_ne_true), ← bv_twice, un_bv _ (by omega) (by omega)]
theorem rrun_next (v r : BitVec 32) (xs : List UInt8) (k : Nat) (x : UInt8) (h : xs[k]? = some x) (hg : Crc.rrun v (xs.take k) = r) : un (Crc.rbits r x 8) = un (Crc.rrun v (xs.take (k + 1))) := by
  obtain ⟨hl, rfl⟩ := List.getElem?_eq_some_iff.1 h
  rw [List.take_succ_eq_append_getElem hl, Crc.rrun_snoc, hg]

set_option maxHeartbeats 400000 in
theorem turned_any (c : Int) (w : World) (h0 : 0 ≤ c) (h1 : c < 4294967296) :
    Calls Try.prog 58 #[.int .u32 c] w fun e w' => e = .returned (.int .u32 (turnI c)) ∧ w = w' := by
  go_enter Try.func58, Try.ntmps58
  go_wp2
  go_loop [3, 4] (fun t i => ∃ k : Nat, k ≤ 32 ∧ i = .int .i64 k ∧ t = .int .u32 (un (Crc.tpart (bv c) k))) (fun _ i => 32 - (intOf i).toNat)
  case atStart => exact ⟨0, by omega, rfl, rfl⟩
  case round =>
    obtain ⟨k, hk, rfl, rfl⟩ := hrel
    have hb := un_bd (Crc.tpart (bv c) k)
    by_cases hlt : k < 32
    · go_wp2
      · go_round
        case rel => exact ⟨k + 1, by omega, by go_num, val_int (turn_yes h0 h1 hlt (by assumption))⟩
        case measure => simp [intOf]; omega
      · go_round
        case rel => exact ⟨k + 1, by omega, by go_num, val_int (turn_no h0 h1 (by assumption))⟩
        case measure => simp [intOf]; omega
    · obtain rfl : k = 32 := by omega
      go_wp2
      go_ret
      exact ⟨ret_int (by rw [Crc.tpart_all]; rfl), rfl⟩

set_option maxHeartbeats 400000 in
theorem radd_any (s : Int) (A : Option Addr) (n c B : Nat) (xs : List UInt8) (w : World) (hn : n ≤ maxLen) (hr : Bytes w B A n xs) :
    Calls Try.prog 54 #[.int .u32 s, .slice A n c] w fun e w' => e = .returned (.int .u32 (addI s xs)) ∧ w = w' := by
  unfold maxLen at hn
  have H := Lib.hid hr
  clear hr
  go_enter Try.func54, Try.ntmps54
  have hb1 := un_bd (~~~ bv s)
  go_wp2_with fail
  rw [bits_not]
  refine (turned_any _ _ (by omega) (by omega)).mono ?_
  rintro e w' ⟨rfl, rfl⟩
  go_wp2
  go_loop [5, 6] (fun t i => ∃ k : Nat, k ≤ n ∧ i = .int .i64 k ∧ t = .int .u32 (un (Crc.rrun (~~~ bv s).reverse (xs.take k)))) (fun _ i => n - (intOf i).toNat)
  case atStart => exact ⟨0, by omega, rfl, val_int (by unfold turnI; rw [bv_un]; rfl)⟩
  case round =>
    obtain ⟨k, hk, rfl, rfl⟩ := hrel
    generalize hg : Crc.rrun (~~~ bv s).reverse (xs.take k) = r
    have HG := Lib.hid hg
    clear hg
    by_cases hlt : k < n
    · obtain ⟨b, off, x, rfl, _, hx, hc⟩ := H.out.at_ hlt
      have hx8 := u8_bd x
      have HX := Lib.hid hx
      clear hx
      go_wp2
      go_loop [5, 7] (fun t i => ∃ j : Nat, j ≤ 8 ∧ i = .int .i64 j ∧ t = .int .u32 (un (Crc.rbits r x j))) (fun _ i => 8 - (intOf i).toNat)
      case atStart => exact ⟨0, by omega, rfl, rfl⟩
      case round =>
        obtain ⟨j, hj, rfl, rfl⟩ := hrel
        have hb := un_bd (Crc.rbits r x j)
        by_cases hjlt : j < 8
        · go_wp2
          · go_round
            case rel => exact ⟨j + 1, by omega, by go_num, val_int (rstep_yes (by assumption))⟩
            case measure => simp [intOf]; omega
          · go_round
            case rel => exact ⟨j + 1, by omega, by go_num, val_int (rstep_no (by assumption))⟩
            case measure => simp [intOf]; omega
        · obtain rfl : j = 8 := by omega
          go_wp2
          go_round
          case rel => exact ⟨k + 1, by omega, by go_num, val_int (rrun_next _ _ _ _ _ HX.out HG.out)⟩
          case measure => simp [intOf]; omega
    · obtain rfl : k = n := by omega
      have hb := un_bd r
      go_wp2_with (go_at_call 58; refine (turned_any _ _ (by omega) (by omega)).mono ?_; rintro e w' ⟨rfl, rfl⟩)
      go_ret
      refine ⟨ret_int ?_, rfl⟩
      have e : xs.take k = xs := List.take_of_length_le (by rw [H.out.1]; exact Nat.le_refl _)
      have hr := HG.out
      rw [e] at hr
      rw [bits_not]
      unfold turnI addI
      rw [bv_un, bv_un, ← hr, ← Crc.radd_add]
      rfl

set_option maxHeartbeats 400000 in
theorem rsum_any (A : Option Addr) (n c B : Nat) (xs : List UInt8) (w : World) (hn : n ≤ maxLen) (hr : Bytes w B A n xs) :
    Calls Try.prog 43 #[.slice A n c] w fun e w' => e = .returned (.int .u32 (addI 0 xs)) ∧ w = w' := by
  have H := Lib.hid hr
  clear hr
  go_enter Try.func43, Try.ntmps43
  go_wp2_with (go_at_call 54; refine (radd_any _ _ _ _ B xs _ hn H.out).mono ?_; rintro e w' ⟨rfl, rfl⟩)
  go_ret
  exact ⟨rfl, rfl⟩
end Go.Proofs.Yteonjdigcecceaa
