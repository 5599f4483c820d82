/-
  What each function of package wire does: one contract a function, over the mathematics of WireMath.
-/
import Derived.Test.YtjlmcjjejmkahaaRows
import Derived.Test.YtjlmcjjejmkahaaWireMath
import Derived.Test.YtjlmcjjejmkahaaBytes
import Derived.Test.YtjlmcjjejmkahaaNums
import Derived.Test.YtjlmcjjejmkahaaMade
import Derived.OwnWalk
import Derived.WalkMore
namespace Go.Proofs.Ytjlmcjjejmkahaa
open Go.RowKit
set_option maxRecDepth 4000

theorem info8 : byteInfo Try.prog 5 := info_parts (by kernel_rfl)

theorem byte_hi (m : Nat) : (((UInt8.ofNat (m % 128 + 128)).toNat : Nat) : Int) = (m : Int) % 128 + 128 := by
  rw [Wire.ofNat_toNat _ (by omega)]
  omega

set_option maxHeartbeats 400000 in
theorem appendNumber_any (v : Value) (xs : List UInt8) (z : Int) (base : Nat) (w : World) (h0 : -9223372036854775808 ≤ z) (h1 : z ≤ 9223372036854775807) (ho : Own w base 5 v xs) (hbase : base ≤ w.heap.size) (hlen : xs.length ≤ 140737488355000) :
    Calls Try.prog 24 #[v, .int .i64 z] w fun e w' => ∃ v', e = .returned v' ∧ Own w' base 5 v' (xs ++ if z < 0 then [] else Wire.code z.toNat) ∧ Below base w w' := by
  have HO := Lib.hid ho
  clear ho
  go_enter Try.func24, Try.ntmps24
  by_cases hz : z < 0
  · go_wp2
    go_ret
    refine ⟨v, rfl, ?_, Below.refl _ _⟩
    first | exact HO.out | (rw [if_pos hz, List.append_nil]; exact HO.out)
  · obtain ⟨n, rfl⟩ := Int.eq_ofNat_of_zero_le (show 0 ≤ z by omega)
    have hg : ∃ L, L = xs ++ Wire.code n ∧ L.length ≤ 140737488355328 := ⟨_, rfl, by have := Wire.code_len9 n (by omega); rw [List.length_append]; omega⟩
    obtain ⟨L, hL, hL2⟩ := hg
    rw [if_neg hz, Int.toNat_natCast, ← hL]
    have HL := Lib.hid hL
    clear hL
    go_wp2
    go_loopw [0, 1] (fun v i wr => ∃ (m : Nat) (ys : List UInt8), (m : Int) ≤ 9223372036854775807 ∧ i = .int .i64 m ∧ Own wr base 5 v ys ∧ ys ++ Wire.code m = L ∧ Below base w wr) (fun _ i _ => (intOf i).toNat)
    case atStart => exact ⟨n, xs, by omega, rfl, HO.out, HL.out.symm, Below.refl _ _⟩
    case round =>
      obtain ⟨m, ys, hm, rfl, ho, he, hb⟩ := hrel
      have HO := Lib.hid ho
      have HE := Lib.hid he
      have HB := Lib.hid hb
      have hsz := hb.size
      clear ho he hb
      have hlen : ys.length + 1 ≤ 140737488355328 := by
        have h := HE.out
        rw [← h, List.length_append] at hL2
        have := Wire.code_pos m
        omega
      by_cases hlt : m < 128
      · have E1 := Lib.hid (show ((UInt8.ofNat m).toNat : Int) = (m : Int) by rw [Wire.ofNat_toNat _ (by omega)])
        go_wp2_with (at_builtin; refine wpList_append_bytes _ rfl _ _ _ rfl base 5 Try.underlying24 info8 _ ys rfl (HO.out.alloc _) (wr.heap.size + 1) (some ⟨wr.heap.size, 0, none⟩) 1 1 [UInt8.ofNat m] rfl (bytes_new wr [UInt8.ofNat m] _ _ _ (by rw [List.map_singleton, E1.out])) hlen (by simp; omega) ?_)
        intro v2 w2 hown2 hgrow hlies
        have hb4 := (HB.out.alloc (show base ≤ wr.heap.size by omega) _).grown hgrow (by simp; omega) HO.out.block
        have HO2 := Lib.hid hown2
        have HB2 := Lib.hid hb4
        clear hown2 hgrow hlies hb4
        go_wp2
        go_ret
        refine ⟨v2, rfl, ?_, HB2.out⟩
        rw [← HE.out, Wire.code_small hlt]
        exact HO2.out
      · obtain ⟨q, hq, e1⟩ : ∃ q : UInt8, q = UInt8.ofNat (m % 128 + 128) ∧ (q.toNat : Int) = (m : Int) % 128 + 128 := ⟨_, rfl, byte_hi m⟩
        have Q := Lib.hid hq
        have E1 := Lib.hid e1
        clear hq e1
        go_wp2_with (at_builtin; refine wpList_append_bytes _ rfl _ _ _ rfl base 5 Try.underlying24 info8 _ ys rfl (HO.out.alloc _) (wr.heap.size + 1) (some ⟨wr.heap.size, 0, none⟩) 1 1 [q] rfl (bytes_new wr [q] _ _ _ (by rw [List.map_singleton, E1.out])) hlen (by simp; omega) ?_)
        intro v2 w2 hown2 hgrow hlies
        have hb4 := (HB.out.alloc (show base ≤ wr.heap.size by omega) _).grown hgrow (by simp; omega) HO.out.block
        have HO2 := Lib.hid hown2
        have HB2 := Lib.hid hb4
        clear hown2 hgrow hlies hb4
        go_wp2
        go_roundw
        case rel => exact ⟨m / 128, ys ++ [q], by omega, by go_num, HO2.out, by rw [← HE.out, Wire.code_big hlt, Q.out]; simp, HB2.out⟩
        case measure => simp [intOf]; omega

theorem nums_new (w : World) (zs : List Int) (cs : Array Value) (e : TypeId) (fr : Nat × Nat) (h : cs = (zs.map fun z => Value.int .i64 z).toArray) (hz : ∀ z ∈ zs, -9223372036854775808 ≤ z ∧ z ≤ 9223372036854775807) :
    Nums (w.alloc (.cells cs e fr)) (w.heap.size + 1) (some ⟨w.heap.size, 0, none⟩) zs.length zs := by
  subst h
  refine ⟨rfl, fun i hi => ⟨(hz _ (List.getElem_mem hi)).1, (hz _ (List.getElem_mem hi)).2, w.heap.size, 0, rfl, Nat.lt_succ_self _, ?_⟩⟩
  rw [World.cell?_alloc_mark]
  simp [hi]

theorem nums_le {w : World} {B : Nat} {A : Option Addr} {n : Nat} {zs : List Int} (h : Nums w B A n zs) : ∀ z ∈ zs, z ≤ 9223372036854775807 := by
  intro z hz
  obtain ⟨i, hi, rfl⟩ := List.getElem_of_mem hz
  exact (h.2 i hi).2.1

theorem codes_next {zs : List Int} {k : Nat} {z : Int} (h : zs[k]? = some z) : Wire.codes (zs.take (k + 1)) = Wire.codes (zs.take k) ++ (if z < 0 then [] else Wire.code z.toNat) := by
  obtain ⟨hl, rfl⟩ := List.getElem?_eq_some_iff.1 h
  rw [List.take_succ_eq_append_getElem hl, Wire.codes_snoc]

theorem codes_take_len {zs : List Int} (h : ∀ z ∈ zs, z ≤ 9223372036854775807) (k : Nat) (hk : k ≤ 1000000000) : (Wire.codes (zs.take k)).length ≤ 140737488355000 := by
  have h1 := Wire.codes_len (zs.take k) (fun z hz => h z (List.mem_of_mem_take hz))
  rw [List.length_take] at h1
  omega

set_option maxHeartbeats 400000 in
theorem number_any (A : Option Addr) (n c B : Nat) (zs : List Int) (w : World) (hn : n ≤ 1000000000) (hr : Nums w B A n zs) (hB : B ≤ w.heap.size) :
    Calls Try.prog 12 #[.slice A n c] w fun e w' => ∃ v', e = .returned v' ∧ Own w' w.heap.size 5 v' (Wire.codes zs) ∧ Below w.heap.size w w' := by
  have HR := Lib.hid hr
  clear hr
  go_enter Try.func12, Try.ntmps12
  go_wp2
  go_loopw [3, 8] (fun v i wr => ∃ k : Nat, k ≤ n ∧ i = .int .i64 k ∧ Own wr w.heap.size 5 v (Wire.codes (zs.take k)) ∧ Below w.heap.size w wr) (fun _ i _ => n - (intOf i).toNat)
  case atStart => exact ⟨0, by omega, rfl, ⟨rfl, .inl ⟨rfl, rfl⟩⟩, Below.refl _ _⟩
  case round =>
    obtain ⟨k, hk, rfl, ho, hb⟩ := hrel
    have HO := Lib.hid ho
    have HB := Lib.hid hb
    have hsz := hb.size
    clear ho hb
    by_cases hlt : k < n
    · obtain ⟨b, off, z, rfl, hbB, hx, hc, hz1, hz2⟩ := (nums_keep (nums_more HR.out hB) HB.out).at_ hlt
      have HX := Lib.hid hx
      clear hx
      go_wp2_with fail
      refine (appendNumber_any _ _ z w.heap.size _ hz1 hz2 HO.out hsz (codes_take_len (nums_le HR.out) k (by omega))).mono ?_
      rintro e w2 ⟨v2, rfl, ho2, hb2⟩
      have HO2 := Lib.hid ho2
      have HB2 := Lib.hid (HB.out.trans hb2)
      clear ho2 hb2
      go_wp2
      go_roundw
      case rel => exact ⟨k + 1, by omega, by go_num, by rw [codes_next HX.out]; exact HO2.out, HB2.out⟩
      case measure => simp [intOf]; omega
    · obtain rfl : k = n := by omega
      go_wp2
      go_ret
      refine ⟨_, rfl, ?_, HB.out⟩
      have e := HO.out
      rwa [List.take_of_length_le (by rw [HR.out.1]; exact Nat.le_refl _)] at e

/-- What is told of the number that bytes begin with: the number, its length, the error. -/
def tn (xs : List UInt8) : Int × Int × Int :=
  match Wire.takes xs with
  | none => (0, 0, 3)
  | some (n, k) => ((n : Int), (k : Int), 0)

theorem i64_or_nat (a b : Nat) (ha : a < 9223372036854775808) (hb : b < 9223372036854775808) : bits .or .i64 (a : Int) (b : Int) = ((a ||| b : Nat) : Int) := by
  have hx : a ||| b < 2 ^ 63 := Nat.or_lt_two_pow (by omega) (by omega)
  show IntKind.i64.wrap ((BitVec.ofInt 64 (a : Int) ||| BitVec.ofInt 64 (b : Int)).toNat : Int) = _
  rw [BitVec.toNat_or, ofInt_u64 a (by omega), ofInt_u64 b (by omega), IntKind.wrap_i64]
  omega

theorem wrap64_nat (n : Nat) (h : n < 9223372036854775808) : wrap64 (n : Int) = (n : Int) := by unfold wrap64; omega

theorem digit_nat (d k : Nat) (hd : d < 128) (hk : k < 9) : d <<< (7 * k) < 9223372036854775808 := by
  rw [Nat.shiftLeft_eq]
  have h1 : 2 ^ (7 * k) ≤ 2 ^ 56 := Nat.pow_le_pow_right (by omega) (by omega)
  have h2 : d * 2 ^ (7 * k) ≤ 127 * 2 ^ 56 := Nat.mul_le_mul (by omega) h1
  omega

theorem digit_or (xs : List UInt8) (k : Nat) (x : UInt8) (hx : xs[k]? = some x) (hk : k < 9) :
    bits .or .i64 (Wire.val (xs.take k) : Int) (wrap64 ((x.toNat : Int) % 128 * 2 ^ (7 * k))) = (Wire.val (xs.take (k + 1)) : Int) := by
  have h1 := digit_nat (x.toNat % 128) k (by omega) hk
  have e : (x.toNat : Int) % 128 * 2 ^ (7 * k) = (((x.toNat % 128) <<< (7 * k) : Nat) : Int) := by rw [Nat.shiftLeft_eq]; simp
  rw [e, wrap64_nat _ h1, i64_or_nat _ _ (Wire.val_take_lt xs k (by omega)) h1, Wire.val_or, Wire.val_take_succ hx]

theorem digit_or0 (xs : List UInt8) (x : UInt8) (hx : xs[0]? = some x) : bits .or .i64 (Wire.val (xs.take 0) : Int) ((x.toNat : Int) % 128) = (Wire.val (xs.take 1) : Int) := by
  have h := digit_or xs 0 x hx (by omega)
  have e : wrap64 ((x.toNat : Int) % 128 * 2 ^ (7 * 0)) = (x.toNat : Int) % 128 := by
    rw [Nat.mul_zero, Int.pow_zero, Int.mul_one]
    unfold wrap64
    omega
  rwa [e] at h

theorem tn_some {xs : List UInt8} {n k : Nat} (h : Wire.takes xs = some (n, k)) : tn xs = ((n : Int), (k : Int), 0) := by
  unfold tn
  rw [h]
theorem tn_none {xs : List UInt8} (h : Wire.takes xs = none) : tn xs = (0, 0, 3) := by
  unfold tn
  rw [h]

theorem ret_tn {xs : List UInt8} {a b c : Int} (h : tn xs = (a, b, c)) : Ending.returned (.tuple #[.int .i64 a, .int .i64 b, .int .i64 c]) = .returned (.tuple #[.int .i64 (tn xs).1, .int .i64 (tn xs).2.1, .int .i64 (tn xs).2.2]) := by
  rw [h]

set_option maxHeartbeats 400000 in
theorem takeNumber_any (A : Option Addr) (n c B : Nat) (xs : List UInt8) (w : World) (hn : n ≤ maxLen) (hr : Bytes w B A n xs) :
    Calls Try.prog 14 #[.slice A n c] w fun e w' => e = .returned (.tuple #[.int .i64 (tn xs).1, .int .i64 (tn xs).2.1, .int .i64 (tn xs).2.2]) ∧ w = w' := by
  unfold maxLen at hn
  have HR := Lib.hid hr
  clear hr
  go_enter Try.func14, Try.ntmps14
  go_wp2
  go_step3
  go_wp2
  go_step3
  go_wp2
  go_loop [5, 10] (fun t i => ∃ k : Nat, k ≤ n ∧ k ≤ 9 ∧ i = .int .i64 k ∧ t = .int .i64 (Wire.val (xs.take k)) ∧ Wire.high (xs.take k)) (fun _ i => n - (intOf i).toNat)
  case atStart => exact ⟨0, by omega, by omega, rfl, rfl, Wire.high_nil⟩
  case round =>
    obtain ⟨k, hk, hk9, rfl, rfl, hh⟩ := hrel
    have HH := Lib.hid hh
    clear hh
    have hv := Wire.val_take_lt xs k hk9
    obtain ⟨m, hm⟩ : ∃ m, m = Wire.val (xs.take k) := ⟨_, rfl⟩
    rw [← hm] at hv ⊢
    have HM := Lib.hid hm
    clear hm
    by_cases hlt : k < n
    · obtain ⟨b, off, x, rfl, _, hx, hc⟩ := HR.out.at_ hlt
      have hx8 := u8_bd x
      have HX := Lib.hid hx
      clear hx
      have hx7 : 0 ≤ (x.toNat : Int) % 128 ∧ (x.toNat : Int) % 128 < 128 := by omega
      rcases Decidable.em (k = 9) with rfl | h9
      · go_wp2
        try rw [Exit.noGoto_ret]
        go_ret3
        exact ⟨ret_tn (tn_none (Wire.takes_none HH.out (.inl rfl))), rfl⟩
      · have h9' : ((k : Int) == 9) = false := by simp; omega
        have hs0 : 0 ≤ 7 * (k : Int) := by omega
        rcases Nat.eq_zero_or_pos k with rfl | h0
        · rw [Nat.add_zero] at hc
          by_cases hl : x.toNat < 128
          · go_wp2
            try rw [Exit.noGoto_ret]
            go_ret3
            refine ⟨ret_tn ?_, rfl⟩
            rw [tn_some (Wire.takes_at HH.out (by omega) HX.out hl (by omega)), ← digit_or0 xs x HX.out, HM.out]
            rfl
          · go_wp2
            go_round
            case rel => exact ⟨1, by omega, by omega, by go_num, val_int (by rw [HM.out]; exact digit_or0 xs x HX.out), Wire.high_take_succ HH.out HX.out (by omega)⟩
            case measure => simp [intOf]; omega
        · by_cases hz : x.toNat = 0
          · go_wp2
            try rw [Exit.noGoto_ret]
            go_ret3
            exact ⟨ret_tn (tn_none (Wire.takes_zero HH.out (by omega) HX.out h0 hz)), rfl⟩
          · by_cases hl : x.toNat < 128
            · go_wp2
              try rw [Exit.noGoto_ret]
              go_ret3
              refine ⟨ret_tn ?_, rfl⟩
              rw [tn_some (Wire.takes_at HH.out (by omega) HX.out hl (by omega)), ← digit_or xs k x HX.out (by omega), HM.out]
              rfl
            · go_wp2
              go_round
              case rel => exact ⟨k + 1, by omega, by omega, by go_num, val_int (by rw [HM.out]; exact digit_or xs k x HX.out (by omega)), Wire.high_take_succ HH.out HX.out (by omega)⟩
              case measure => simp [intOf]; omega
    · obtain rfl : k = n := by omega
      go_wp2
      try rw [Exit.noGoto_ret]
      go_ret3
      exact ⟨ret_tn (tn_none (Wire.takes_none HH.out (.inr ⟨hk9, HR.out.1.symm⟩))), rfl⟩

/-! ### Four bytes -/

/-- Behind k rounds: the first k bytes laid, noughts behind. -/
def fz (n : Nat) : Nat → List UInt8
  | 0 => [0, 0, 0, 0]
  | k + 1 => (fz n k).set k (UInt8.ofNat (n / 256 ^ k))

theorem fz_len (n : Nat) : ∀ k, (fz n k).length = 4
  | 0 => rfl
  | k + 1 => by rw [fz, List.length_set, fz_len n k]

theorem fz_four (n : Nat) : fz n 4 = Wire.fx n := by simp [fz, Wire.fx]

theorem byte_at (n k : Nat) : ((UInt8.ofNat (n / 256 ^ k)).toNat : Int) = (n : Int) / 2 ^ (8 * k) % 256 := by
  have e : ((n : Int) / 2 ^ (8 * k)) = ((n / 256 ^ k : Nat) : Int) := by rw [Int.natCast_ediv, show (256 : Nat) ^ k = 2 ^ (8 * k) by rw [Nat.pow_mul]]; simp
  rw [e, UInt8.toNat_ofNat']
  omega

set_option maxHeartbeats 400000 in
theorem fixed_any (n : Int) (w : World) (h0 : 0 ≤ n) (h1 : n ≤ 4294967295) :
    Calls Try.prog 18 #[.int .u32 n] w fun e w' => ∃ v', e = .returned v' ∧ Own w' w.heap.size 5 v' (Wire.fx n.toNat) ∧ Below w.heap.size w w' := by
  obtain ⟨n, rfl⟩ := Int.eq_ofNat_of_zero_le h0
  have HM := Lib.hid (own_made w 5 4 (by decide))
  have HB := Lib.hid ((Below.refl w.heap.size w).alloc (Nat.le_refl _) (.cells ((List.replicate 4 (0 : UInt8)).map cellOf).toArray 5))
  have hmk : (Instr.makeSlice 24 (.int .i64 4) (.int .i64 4)).run Try.prog w = _ := run_make_bytes w 24 5 Try.underlying24 info8 .i64 .i64 4 (by omega)
  generalize w.alloc (.cells ((List.replicate 4 (0 : UInt8)).map cellOf).toArray 5) = w1 at HM HB hmk
  have hsz := HB.out.size
  go_enter Try.func18, Try.ntmps18
  go_wp2
  clear hmk
  go_loopw [8] (fun i wr => ∃ k : Nat, k ≤ 4 ∧ i = .int .i64 k ∧ Own wr w.heap.size 5 (.slice (some ⟨w.heap.size, 0, none⟩) 4 4) (fz n k) ∧ Below w.heap.size w wr) (fun i _ => 4 - (intOf i).toNat)
  case atStart => exact ⟨0, by omega, rfl, HM.out, HB.out⟩
  case round =>
    obtain ⟨k, hk, rfl, ho, hb⟩ := hrel
    have HO := Lib.hid ho
    have HB2 := Lib.hid hb
    clear ho hb
    by_cases hlt : k < 4
    · have hl : k < (fz n k).length := by rw [fz_len]; exact hlt
      obtain ⟨hc, hf⟩ := HO.out.cell hl
      have hon := HO.out.set k (UInt8.ofNat (n / 256 ^ k))
      have hs0 : 0 ≤ 8 * (k : Int) := by omega
      have HON : Hid (Own (wr.setCell ⟨w.heap.size, k, none⟩ (.int .u8 ((n : Int) / 2 ^ (8 * k) % 256))) w.heap.size 5 (.slice (some ⟨w.heap.size, 0, none⟩) 4 4) (fz n (k + 1))) := by
        rw [← byte_at]
        exact Lib.hid hon
      clear hon
      generalize cellOf (fz n k)[k] = old at hc
      go_wp2
      go_roundw
      case rel => exact ⟨k + 1, by omega, by go_num, HON.out, HB2.out.setCell (Nat.le_refl _) _⟩
      case measure => simp [intOf]; omega
    · obtain rfl : k = 4 := by omega
      go_wp2
      go_ret
      refine ⟨_, rfl, ?_, HB2.out⟩
      have e := HO.out
      rwa [fz_four] at e

/-- What is told of the number that bytes begin with: the number, the error. -/
def tf (xs : List UInt8) : Int × Int := if xs.length < 4 then (0, 3) else ((Wire.fk xs 4 : Int), 0)

theorem fk_next (xs : List UInt8) (k : Nat) (x : UInt8) (hx : xs[k]? = some x) (hk : k < 4) :
    bits .or .u32 (Wire.fk xs k : Int) (((x.toNat : Int) * 2 ^ (8 * k)) % 4294967296) = (Wire.fk xs (k + 1) : Int) := by
  have hx8 := x.toNat_lt
  have h1 := Wire.fk_lt xs k
  have h2 : 256 ^ k ≤ 256 ^ 3 := Nat.pow_le_pow_right (by omega) (by omega)
  have h3 : 2 ^ (8 * k) ≤ 2 ^ 24 := Nat.pow_le_pow_right (by omega) (by omega)
  have h4 : x.toNat <<< (8 * k) ≤ 255 * 2 ^ 24 := by rw [Nat.shiftLeft_eq]; exact Nat.mul_le_mul (by omega) h3
  have e : (x.toNat : Int) * 2 ^ (8 * k) = ((x.toNat <<< (8 * k) : Nat) : Int) := by rw [Nat.shiftLeft_eq]; simp
  have eg : xs.getD k 0 = x := by rw [List.getD, hx]; rfl
  have h5 : Wire.fk xs k < 4294967296 := by omega
  have h6 : x.toNat <<< (8 * k) < 4294967296 := by omega
  rw [e, Int.emod_eq_of_lt (Int.natCast_nonneg _) (show ((x.toNat <<< (8 * k) : Nat) : Int) < 4294967296 from Int.ofNat_lt.2 h6), u32_or_nat _ _ h5 h6, Wire.fk_or, Wire.fk, eg]

set_option maxHeartbeats 400000 in
theorem takeFixed_any (A : Option Addr) (n c B : Nat) (xs : List UInt8) (w : World) (hnc : n ≤ c) (hn : c ≤ maxLen) (hr : Bytes w B A n xs) :
    Calls Try.prog 16 #[.slice A n c] w fun e w' => e = .returned (.tuple #[.int .u32 (tf xs).1, .int .i64 (tf xs).2]) ∧ w = w' := by
  unfold maxLen at hn
  have HR := Lib.hid hr
  clear hr
  have HL := Lib.hid HR.out.1
  go_enter Try.func16, Try.ntmps16
  by_cases h4 : n < 4
  · go_wp2
    go_ret2
    unfold tf
    rw [HL.out, if_pos h4]
    exact ⟨rfl, rfl⟩
  · go_wp2
    go_loop [4, 13] (fun t i => ∃ k : Nat, k ≤ 4 ∧ i = .int .i64 k ∧ t = .int .u32 (Wire.fk xs k)) (fun _ i => 4 - (intOf i).toNat)
    case atStart => exact ⟨0, by omega, rfl, rfl⟩
    case round =>
      obtain ⟨k, hk, rfl, rfl⟩ := hrel
      have hv := Wire.fk_lt xs k
      by_cases hlt : k < 4
      · obtain ⟨b, off, x, rfl, _, hx, hc⟩ := HR.out.at_ (k := k) (by omega)
        have hx8 := u8_bd x
        have HX := Lib.hid hx
        have hs0 : 0 ≤ 8 * (k : Int) := by omega
        clear hx
        obtain ⟨m, hm⟩ : ∃ m, m = Wire.fk xs k := ⟨_, rfl⟩
        rw [← hm] at hv ⊢
        have HM := Lib.hid hm
        clear hm hv
        go_wp2
        go_round
        case rel => exact ⟨k + 1, by omega, by go_num, val_int (by rw [HM.out]; exact fk_next xs k x HX.out hlt)⟩
        case measure => simp [intOf]; omega
      · obtain rfl : k = 4 := by omega
        clear hv
        go_wp2
        go_ret2
        unfold tf
        rw [HL.out, if_neg h4]
        exact ⟨rfl, rfl⟩

/-! ### Texts -/

theorem one_bd {z : Int} (h0 : -9223372036854775808 ≤ z) (h1 : z ≤ 9223372036854775807) : ∀ y ∈ [z], -9223372036854775808 ≤ y ∧ y ≤ 9223372036854775807 := by
  intro y hy
  rw [List.mem_singleton] at hy
  subst hy
  exact ⟨h0, h1⟩

/-- Number of one argument, in a slice of its own. -/
theorem number_one (w : World) (z : Int) (cs : Array Value) (hcs : cs = #[.int .i64 z]) (e : TypeId) (fr : Nat × Nat) (h0 : 0 ≤ z) (h1 : z ≤ 9223372036854775807) :
    Calls Try.prog 12 #[.slice (some ⟨w.heap.size, 0, none⟩) 1 1] (w.alloc (.cells cs e fr)) fun e w' => ∃ v', e = .returned v' ∧ Own w' w.heap.size 5 v' (Wire.code z.toNat) ∧ Below w.heap.size w w' := by
  subst hcs
  refine (number_any _ 1 1 (w.heap.size + 1) [z] _ (by omega) (nums_new w [z] _ e fr rfl (one_bd (by omega) h1)) (by simp)).mono ?_
  rintro e' w' ⟨v', he, ho, hb⟩
  rw [Wire.codes_one h0] at ho
  exact ⟨v', he, ho.le (by simp), ((Below.refl w.heap.size w).alloc (Nat.le_refl _) _).trans (hb.mono (by simp))⟩

set_option maxHeartbeats 400000 in
theorem text_any (A : Option Addr) (n c B : Nat) (xs : List UInt8) (w : World) (hn : n ≤ 100000000000) (hr : Bytes w B A n xs) (hB : B ≤ w.heap.size) :
    Calls Try.prog 22 #[.slice A n c] w fun e w' => ∃ v', e = .returned v' ∧ Own w' w.heap.size 5 v' (Wire.code n ++ xs) ∧ Below w.heap.size w w' := by
  have HR := Lib.hid hr
  clear hr
  go_enter Try.func22, Try.ntmps22
  go_wp2_with fail
  refine (number_one w (n : Int) _ rfl _ _ (by omega) (by omega)).mono ?_
  rintro e w2 ⟨v2, rfl, ho2, hb2⟩
  rw [Int.toNat_natCast] at ho2
  have hl := Wire.code_len9 n (by omega)
  have HO2 := Lib.hid ho2
  have HB2 := Lib.hid hb2
  have hsz := hb2.size
  clear ho2 hb2
  go_wp2_with (at_builtin; refine wpList_append_bytes _ rfl _ _ _ rfl w.heap.size 5 Try.underlying24 info8 _ (Wire.code n) rfl HO2.out w.heap.size A n c xs rfl (bytes_keep (bytes_more HR.out hB) HB2.out) (by omega) hsz ?_)
  intro v3 w3 ho3 hg3 _
  have HO3 := Lib.hid ho3
  have HB3 := Lib.hid (HB2.out.grown hg3 hsz HO2.out.block)
  clear ho3 hg3
  go_wp2
  go_ret
  exact ⟨v3, rfl, HO3.out, HB3.out⟩

/-- What is told of the text that bytes begin with: the text, its code's length, the error. -/
def tt (xs : List UInt8) : List UInt8 × Int × Int :=
  match Wire.takes xs with
  | none => ([], 0, 3)
  | some (n, k) => if xs.length - k < n then ([], 0, 3) else ((xs.drop k).take n, ((k + n : Nat) : Int), 0)

set_option maxHeartbeats 400000 in
theorem takeText_any (A : Option Addr) (n c B : Nat) (xs : List UInt8) (w : World) (hn : n ≤ 100000000000) (hnc : n ≤ c) (hcm : c ≤ maxLen) (hr : Bytes w B A n xs) :
    Calls Try.prog 20 #[.slice A n c] w fun e w' => ∃ v', e = .returned (.tuple #[v', .int .i64 (tt xs).2.1, .int .i64 (tt xs).2.2]) ∧ Own w' w.heap.size 5 v' (tt xs).1 ∧ Below w.heap.size w w' := by
  have HR := Lib.hid hr
  have HL := Lib.hid hr.1
  have HC := Lib.hid hcm
  unfold maxLen at hcm
  clear hr
  have HT := Lib.hid (takeNumber_any A n c B xs w (Nat.le_trans hnc HC.out) HR.out)
  rcases ht : Wire.takes xs with _ | ⟨m, k⟩
  · have e1 : tt xs = ([], 0, 3) := by unfold tt; rw [ht]
    rw [tn_none ht] at HT
    rw [e1]
    clear e1 ht
    go_enter Try.func20, Try.ntmps20
    go_wp2_with fail
    refine HT.out.mono ?_
    rintro e w2 ⟨rfl, rfl⟩
    go_wp2
    go_ret3
    exact ⟨_, rfl, ⟨rfl, .inl ⟨rfl, rfl⟩⟩, Below.refl _ _⟩
  · obtain ⟨h1, h2, h3, h4, _⟩ := Wire.takes_some ht
    rw [HL.out] at h3
    rw [tn_some ht] at HT
    by_cases hlt : n - k < m
    · have e1 : tt xs = ([], 0, 3) := by unfold tt; rw [ht]; simp only; rw [HL.out, if_pos hlt]
      rw [e1]
      clear e1 ht
      go_enter Try.func20, Try.ntmps20
      go_wp2_with fail
      refine HT.out.mono ?_
      rintro e w2 ⟨rfl, rfl⟩
      go_wp2
      go_ret3
      exact ⟨_, rfl, ⟨rfl, .inl ⟨rfl, rfl⟩⟩, Below.refl _ _⟩
    · have e1 : tt xs = ((xs.drop k).take m, ((k + m : Nat) : Int), 0) := by unfold tt; rw [ht]; simp only; rw [HL.out, if_neg hlt]
      rw [e1]
      clear e1 ht
      have HP := Lib.hid (bytes_part HR.out (k := k) (m := m) (cap := c) (by omega) hnc)
      generalize (xs.drop k).take m = ys at HP
      rw [show m = k + m - k by omega] at HP
      rcases Decidable.em (k = c) with rfl | hcf
      · rw [if_pos rfl] at HP
        go_enter Try.func20, Try.ntmps20
        go_wp2_with fail
        refine HT.out.mono ?_
        rintro e w2 ⟨rfl, rfl⟩
        go_wp2_with (at_builtin; refine wpList_append_bytes _ rfl _ _ _ rfl w.heap.size 5 Try.underlying24 info8 _ [] rfl ⟨rfl, .inl ⟨rfl, rfl⟩⟩ B _ (k + m - k) _ ys rfl HP.out (by simp; omega) (Nat.le_refl _) ?_)
        intro v3 w3 ho3 hg3 _
        have HO3 := Lib.hid ho3
        have HB3 := Lib.hid ((Below.refl w.heap.size w).grown hg3 (Nat.le_refl _) (fun k hk => by simp [Value.ownBlock] at hk))
        clear ho3 hg3
        go_wp2
        go_ret3
        exact ⟨v3, by simp, HO3.out, HB3.out⟩
      · rw [if_neg (fun e => hcf e.symm)] at HP
        go_enter Try.func20, Try.ntmps20
        go_wp2_with fail
        refine HT.out.mono ?_
        rintro e w2 ⟨rfl, rfl⟩
        go_wp2_with (at_builtin; refine wpList_append_bytes _ rfl _ _ _ rfl w.heap.size 5 Try.underlying24 info8 _ [] rfl ⟨rfl, .inl ⟨rfl, rfl⟩⟩ B _ (k + m - k) _ ys rfl HP.out (by simp; omega) (Nat.le_refl _) ?_)
        intro v3 w3 ho3 hg3 _
        have HO3 := Lib.hid ho3
        have HB3 := Lib.hid ((Below.refl w.heap.size w).grown hg3 (Nat.le_refl _) (fun k hk => by simp [Value.ownBlock] at hk))
        clear ho3 hg3
        go_wp2
        go_ret3
        exact ⟨v3, by simp, HO3.out, HB3.out⟩
end Go.Proofs.Ytjlmcjjejmkahaa
