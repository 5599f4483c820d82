/-
  What Fixed and TakeFixed of package wire do (the same texts as in WireWalks, for a place that reaches no other function of wire: import one of the two).
-/
import Derived.Test.YteonjdigcecceaaRows
import Derived.Test.YteonjdigcecceaaWireMath
import Derived.Test.YteonjdigcecceaaBytes
import Derived.Test.YteonjdigcecceaaMade
import Derived.OwnWalk
import Derived.WalkMore
namespace Go.Proofs.Yteonjdigcecceaa
open Go.RowKit
set_option maxRecDepth 4000

theorem info8 : byteInfo Try.prog 5 := info_parts (by kernel_rfl)

theorem i64_or_nat (a b : Nat) (ha : a < 9223372036854775808) (hb : b < 9223372036854775808) : bits .or .i64 (a : Int) (b : Int) = ((a ||| b : Nat) : Int) := by
  have hx : a ||| b < 2 ^ 63 := Nat.or_lt_two_pow (by omega) (by omega)
  show IntKind.i64.wrap ((BitVec.ofInt 64 (a : Int) ||| BitVec.ofInt 64 (b : Int)).toNat : Int) = _
  rw [BitVec.toNat_or, ofInt_u64 a (by omega), ofInt_u64 b (by omega), IntKind.wrap_i64]
  omega

/-! ### Four bytes -/

/-- Behind k rounds: the first k bytes laid, noughts behind. -/
def fz (n : Nat) : Nat → List UInt8
  | 0 => [0, 0, 0, 0]
  | k + 1 => (fz n k).set k (UInt8.ofNat (n / 256 ^ k))

theorem fz_len (n : Nat) : ∀ k, (fz n k).length = 4
  | 0 => rfl
  | k + 1 => by rw [fz, List.length_set, fz_len n k]

theorem fz_four (n : Nat) : fz n 4 = Wire.fx n := by simp [fz, Wire.fx]

theorem byte_at (n k : Nat) : ((UInt8.ofNat (n / 256 ^ k)).toNat : Int) = (n : Int) / 2 ^ (8 * k) % 256 := by
  have e : ((n : Int) / 2 ^ (8 * k)) = ((n / 256 ^ k : Nat) : Int) := by rw [Int.natCast_ediv, show (256 : Nat) ^ k = 2 ^ (8 * k) by rw [Nat.pow_mul]]; simp
  rw [e, UInt8.toNat_ofNat']
  omega

set_option maxHeartbeats 400000 in
theorem fixed_any (n : Int) (w : World) (h0 : 0 ≤ n) (h1 : n ≤ 4294967295) :
    Calls Try.prog 52 #[.int .u32 n] w fun e w' => ∃ v', e = .returned v' ∧ Own w' w.heap.size 5 v' (Wire.fx n.toNat) ∧ Below w.heap.size w w' := by
  obtain ⟨n, rfl⟩ := Int.eq_ofNat_of_zero_le h0
  have HM := Lib.hid (own_made w 5 4 (by decide))
  have HB := Lib.hid ((Below.refl w.heap.size w).alloc (Nat.le_refl _) (.cells ((List.replicate 4 (0 : UInt8)).map cellOf).toArray 5))
  have hmk : (Instr.makeSlice 40 (.int .i64 4) (.int .i64 4)).run Try.prog w = _ := run_make_bytes w 40 5 Try.underlying40 info8 .i64 .i64 4 (by omega)
  generalize w.alloc (.cells ((List.replicate 4 (0 : UInt8)).map cellOf).toArray 5) = w1 at HM HB hmk
  have hsz := HB.out.size
  go_enter Try.func52, Try.ntmps52
  go_wp2
  clear hmk
  go_loopw [8] (fun i wr => ∃ k : Nat, k ≤ 4 ∧ i = .int .i64 k ∧ Own wr w.heap.size 5 (.slice (some ⟨w.heap.size, 0, none⟩) 4 4) (fz n k) ∧ Below w.heap.size w wr) (fun i _ => 4 - (intOf i).toNat)
  case atStart => exact ⟨0, by omega, rfl, HM.out, HB.out⟩
  case round =>
    obtain ⟨k, hk, rfl, ho, hb⟩ := hrel
    have HO := Lib.hid ho
    have HB2 := Lib.hid hb
    clear ho hb
    by_cases hlt : k < 4
    · have hl : k < (fz n k).length := by rw [fz_len]; exact hlt
      obtain ⟨hc, hf⟩ := HO.out.cell hl
      have hon := HO.out.set k (UInt8.ofNat (n / 256 ^ k))
      have hs0 : 0 ≤ 8 * (k : Int) := by omega
      have HON : Hid (Own (wr.setCell ⟨w.heap.size, k, none⟩ (.int .u8 ((n : Int) / 2 ^ (8 * k) % 256))) w.heap.size 5 (.slice (some ⟨w.heap.size, 0, none⟩) 4 4) (fz n (k + 1))) := by
        rw [← byte_at]
        exact Lib.hid hon
      clear hon
      generalize cellOf (fz n k)[k] = old at hc
      go_wp2
      go_roundw
      case rel => exact ⟨k + 1, by omega, by go_num, HON.out, HB2.out.setCell (Nat.le_refl _) _⟩
      case measure => simp [intOf]; omega
    · obtain rfl : k = 4 := by omega
      go_wp2
      go_ret
      refine ⟨_, rfl, ?_, HB2.out⟩
      have e := HO.out
      rwa [fz_four] at e

/-- What is told of the number that bytes begin with: the number, the error. -/
def tf (xs : List UInt8) : Int × Int := if xs.length < 4 then (0, 3) else ((Wire.fk xs 4 : Int), 0)

theorem fk_next (xs : List UInt8) (k : Nat) (x : UInt8) (hx : xs[k]? = some x) (hk : k < 4) :
    bits .or .u32 (Wire.fk xs k : Int) (((x.toNat : Int) * 2 ^ (8 * k)) % 4294967296) = (Wire.fk xs (k + 1) : Int) := by
  have hx8 := x.toNat_lt
  have h1 := Wire.fk_lt xs k
  have h2 : 256 ^ k ≤ 256 ^ 3 := Nat.pow_le_pow_right (by omega) (by omega)
  have h3 : 2 ^ (8 * k) ≤ 2 ^ 24 := Nat.pow_le_pow_right (by omega) (by omega)
  have h4 : x.toNat <<< (8 * k) ≤ 255 * 2 ^ 24 := by rw [Nat.shiftLeft_eq]; exact Nat.mul_le_mul (by omega) h3
  have e : (x.toNat : Int) * 2 ^ (8 * k) = ((x.toNat <<< (8 * k) : Nat) : Int) := by rw [Nat.shiftLeft_eq]; simp
  have eg : xs.getD k 0 = x := by rw [List.getD, hx]; rfl
  have h5 : Wire.fk xs k < 4294967296 := by omega
  have h6 : x.toNat <<< (8 * k) < 4294967296 := by omega
  rw [e, Int.emod_eq_of_lt (Int.natCast_nonneg _) (show ((x.toNat <<< (8 * k) : Nat) : Int) < 4294967296 from Int.ofNat_lt.2 h6), u32_or_nat _ _ h5 h6, Wire.fk_or, Wire.fk, eg]

set_option maxHeartbeats 400000 in
theorem takeFixed_any (A : Option Addr) (n c B : Nat) (xs : List UInt8) (w : World) (hnc : n ≤ c) (hn : c ≤ maxLen) (hr : Bytes w B A n xs) :
    Calls Try.prog 56 #[.slice A n c] w fun e w' => e = .returned (.tuple #[.int .u32 (tf xs).1, .int .i64 (tf xs).2]) ∧ w = w' := by
  unfold maxLen at hn
  have HR := Lib.hid hr
  clear hr
  have HL := Lib.hid HR.out.1
  go_enter Try.func56, Try.ntmps56
  by_cases h4 : n < 4
  · go_wp2
    go_ret2
    unfold tf
    rw [HL.out, if_pos h4]
    exact ⟨rfl, rfl⟩
  · go_wp2
    go_loop [4, 13] (fun t i => ∃ k : Nat, k ≤ 4 ∧ i = .int .i64 k ∧ t = .int .u32 (Wire.fk xs k)) (fun _ i => 4 - (intOf i).toNat)
    case atStart => exact ⟨0, by omega, rfl, rfl⟩
    case round =>
      obtain ⟨k, hk, rfl, rfl⟩ := hrel
      have hv := Wire.fk_lt xs k
      by_cases hlt : k < 4
      · obtain ⟨b, off, x, rfl, _, hx, hc⟩ := HR.out.at_ (k := k) (by omega)
        have hx8 := u8_bd x
        have HX := Lib.hid hx
        have hs0 : 0 ≤ 8 * (k : Int) := by omega
        clear hx
        obtain ⟨m, hm⟩ : ∃ m, m = Wire.fk xs k := ⟨_, rfl⟩
        rw [← hm] at hv ⊢
        have HM := Lib.hid hm
        clear hm hv
        go_wp2
        go_round
        case rel => exact ⟨k + 1, by omega, by go_num, val_int (by rw [HM.out]; exact fk_next xs k x HX.out hlt)⟩
        case measure => simp [intOf]; omega
      · obtain rfl : k = 4 := by omega
        clear hv
        go_wp2
        go_ret2
        unfold tf
        rw [HL.out, if_neg h4]
        exact ⟨rfl, rfl⟩

end Go.Proofs.Yteonjdigcecceaa
