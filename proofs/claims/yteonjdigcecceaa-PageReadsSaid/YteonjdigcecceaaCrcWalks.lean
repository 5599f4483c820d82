/-
  What each function of package crc does: one contract a function, over the mathematics of CrcMath.
-/
import Derived.Test.YteonjdigcecceaaRows
import Derived.Test.YteonjdigcecceaaCrcMath
import Derived.Test.YteonjdigcecceaaBytes
namespace Go.Proofs.Yteonjdigcecceaa
open Go.RowKit

/-- A number of 32 bits as the model has it. -/
def bv (c : Int) : BitVec 32 := BitVec.ofInt 32 c
def un (v : BitVec 32) : Int := (v.toNat : Int)
def stepI (c : Int) : Int := un (Crc.step (bv c))
def byteI (c x : Int) : Int := un (Crc.byte (bv c) (u8 x))
def addI (c : Int) (xs : List UInt8) : Int := un (Crc.add (bv c) xs)

theorem un_bd (v : BitVec 32) : 0 ≤ un v ∧ un v < 4294967296 := by
  unfold un
  have := v.isLt
  omega
theorem bv_un (v : BitVec 32) : bv (un v) = v := by
  unfold bv un
  rw [BitVec.ofInt_natCast, BitVec.ofNat_toNat, BitVec.setWidth_eq]
theorem un_bv (c : Int) (h0 : 0 ≤ c) (h1 : c < 4294967296) : un (bv c) = c := by
  unfold bv un
  rw [BitVec.toNat_ofInt]
  omega
theorem bv_toNat (c : Int) (h0 : 0 ≤ c) (h1 : c < 4294967296) : (bv c).toNat = c.toNat := by
  unfold bv
  rw [BitVec.toNat_ofInt]
  omega
theorem un_inj {a b : BitVec 32} (h : un a = un b) : a = b := by rw [← bv_un a, h, bv_un]
theorem wrap_un (v : BitVec 32) : IntKind.u32.wrap (v.toNat : Int) = un v := by
  rw [IntKind.wrap_u32']
  unfold un
  have := v.isLt
  omega
theorem bits_xor (a b : Int) : bits .xor .u32 a b = un (bv a ^^^ bv b) := wrap_un _
theorem bits_and (a b : Int) : bits .and .u32 a b = un (bv a &&& bv b) := wrap_un _
theorem bits_or (a b : Int) : bits .or .u32 a b = un (bv a ||| bv b) := wrap_un _
theorem bv_half (c : Int) (h0 : 0 ≤ c) (h1 : c < 4294967296) : bv (c / 2) = bv c >>> 1 := by
  apply BitVec.eq_of_toNat_eq
  rw [BitVec.toNat_ushiftRight, Nat.shiftRight_eq_div_pow, bv_toNat c h0 h1, bv_toNat (c / 2) (by omega) (by omega)]
  omega
theorem low_bit (v : BitVec 32) : (un (v &&& bv 1) == 1) = v.getLsbD 0 := by
  have e : (v &&& bv 1).toNat = v.toNat % 2 := by
    rw [BitVec.toNat_and, show (bv 1).toNat = 1 by decide, Nat.and_one_is_mod]
  unfold un
  rw [e, BitVec.getLsbD, Nat.testBit_zero, Bool.eq_iff_iff]
  simp
  omega
theorem step_yes {c : Int} (h0 : 0 ≤ c) (h1 : c < 4294967296) (h : (bits .and .u32 c 1 == 1) = true) : bits .xor .u32 (c / 2) 3988292384 = stepI c := by
  rw [bits_and, low_bit] at h
  unfold stepI Crc.step
  rw [bits_xor, bv_half c h0 h1, if_pos h]
  rfl
theorem step_no {c : Int} (h0 : 0 ≤ c) (h1 : c < 4294967296) (h : (bits .and .u32 c 1 == 1) = false) : c / 2 = stepI c := by
  rw [bits_and, low_bit] at h
  unfold stepI Crc.step
  rw [if_neg (by rw [h]; exact Bool.false_ne_true), ← bv_half c h0 h1, un_bv _ (by omega) (by omega)]
set_option maxHeartbeats 400000 in
theorem step_any (c : Int) (w : World) (h0 : 0 ≤ c) (h1 : c < 4294967296) :
    Calls Try.prog 60 #[.int .u32 c] w fun e w' => e = .returned (.int .u32 (stepI c)) ∧ w = w' := by
  go_enter Try.func60, Try.ntmps60
  go_wp2
  · go_ret
    exact ⟨ret_int (step_yes h0 h1 (by assumption)), rfl⟩
  · go_ret
    exact ⟨ret_int (step_no h0 h1 (by assumption)), rfl⟩

theorem wide_u8 (x : Int) (h0 : 0 ≤ x) (h1 : x < 256) : bv x = Crc.wide (u8 x) := by
  apply BitVec.eq_of_toNat_eq
  rw [bv_toNat x h0 (by omega)]
  unfold Crc.wide u8
  rw [BitVec.toNat_setWidth]
  simp
  omega

set_option maxHeartbeats 400000 in
theorem byte_any (c x : Int) (w : World) (hx0 : 0 ≤ x) (hx1 : x < 256) :
    Calls Try.prog 59 #[.int .u32 c, .int .u8 x] w fun e w' => e = .returned (.int .u32 (byteI c x)) ∧ w = w' := by
  go_enter Try.func59, Try.ntmps59
  go_wp2
  go_loop [0, 9] (fun t i => ∃ k : Nat, k ≤ 8 ∧ i = .int .i64 k ∧ t = .int .u32 (un (Crc.steps k (bv c ^^^ Crc.wide (u8 x))))) (fun _ i => 8 - (intOf i).toNat)
  case atStart => exact ⟨0, by omega, rfl, val_int (by rw [bits_xor, wide_u8 x hx0 hx1]; rfl)⟩
  case round =>
    obtain ⟨k, hk, rfl, rfl⟩ := hrel
    have hb := un_bd (Crc.steps k (bv c ^^^ Crc.wide (u8 x)))
    by_cases hlt : k < 8
    · go_wp2_with (go_at_call 60; refine (step_any _ _ (by omega) (by omega)).mono ?_; rintro e w' ⟨rfl, rfl⟩)
      go_round
      case rel => exact ⟨k + 1, by omega, by go_num, val_int (by unfold stepI; rw [bv_un, Crc.steps_snoc])⟩
      case measure => simp [intOf]; omega
    · obtain rfl : k = 8 := by omega
      go_wp2
      go_ret
      exact ⟨rfl, rfl⟩

theorem byteI_run (v : BitVec 32) (xs : List UInt8) (k : Nat) (h : k < xs.length) : byteI (un (Crc.run v (xs.take k))) ((xs[k]).toNat : Int) = un (Crc.run v (xs.take (k + 1))) := by
  unfold byteI
  rw [bv_un, u8_toNat, List.take_succ_eq_append_getElem h, Crc.run_snoc]

theorem bits_not (s : Int) : bits .xor .u32 IntKind.u32.max s = un (~~~ bv s) := by
  rw [bits_xor]
  have e : bv IntKind.u32.max = BitVec.allOnes 32 := by decide +kernel
  rw [e, BitVec.allOnes_xor]

theorem run_next (v : BitVec 32) (xs : List UInt8) (k : Nat) (x : UInt8) (h : xs[k]? = some x) : byteI (un (Crc.run v (xs.take k))) (x.toNat : Int) = un (Crc.run v (xs.take (k + 1))) := by
  obtain ⟨hl, rfl⟩ := List.getElem?_eq_some_iff.1 h
  exact byteI_run v xs k hl

set_option maxHeartbeats 400000 in
theorem add_any (s : Int) (A : Option Addr) (n c B : Nat) (xs : List UInt8) (w : World) (hn : n ≤ maxLen) (hr : Bytes w B A n xs) :
    Calls Try.prog 57 #[.int .u32 s, .slice A n c] w fun e w' => e = .returned (.int .u32 (addI s xs)) ∧ w = w' := by
  unfold maxLen at hn
  go_enter Try.func57, Try.ntmps57
  go_wp2
  go_loop [5, 12] (fun t i => ∃ k : Nat, k ≤ n ∧ i = .int .i64 k ∧ t = .int .u32 (un (Crc.run (~~~ bv s) (xs.take k)))) (fun _ i => n - (intOf i).toNat)
  case atStart => exact ⟨0, by omega, rfl, val_int (by rw [bits_not]; rfl)⟩
  case round =>
    obtain ⟨k, hk, rfl, rfl⟩ := hrel
    have hb := un_bd (Crc.run (~~~ bv s) (xs.take k))
    by_cases hlt : k < n
    · obtain ⟨b, off, x, rfl, _, hx, hc⟩ := hr.at_ hlt
      have hx8 := u8_bd x
      have HX := Lib.hid hx
      clear hx hr
      go_wp2_with (go_at_call 59; refine (byte_any _ _ _ (by omega) (by omega)).mono ?_; rintro e w' ⟨rfl, rfl⟩)
      go_round
      case rel => exact ⟨k + 1, by omega, by go_num, val_int (run_next _ _ _ _ HX.out)⟩
      case measure => simp [intOf]; omega
    · obtain rfl : k = n := by omega
      have e : xs.take k = xs := List.take_of_length_le (by rw [hr.1]; exact Nat.le_refl _)
      rw [e]
      clear e hr
      go_wp2
      go_ret
      exact ⟨ret_int (by rw [bits_not, bv_un]; rfl), rfl⟩

set_option maxHeartbeats 400000 in
theorem sum_any (A : Option Addr) (n c B : Nat) (xs : List UInt8) (w : World) (hn : n ≤ maxLen) (hr : Bytes w B A n xs) :
    Calls Try.prog 53 #[.slice A n c] w fun e w' => e = .returned (.int .u32 (addI 0 xs)) ∧ w = w' := by
  have H := Lib.hid hr
  clear hr
  go_enter Try.func53, Try.ntmps53
  go_wp2_with (go_at_call 57; refine (add_any _ _ _ _ B xs _ hn H.out).mono ?_; rintro e w' ⟨rfl, rfl⟩)
  go_ret
  exact ⟨rfl, rfl⟩

end Go.Proofs.Yteonjdigcecceaa
