/-
  What the document's own answer for package wire does: one contract a function; it tells the same as package wire.
-/
import Derived.Test.YtjlmcjjejmkahaaWireWalks
import Derived.BigQuiet
namespace Go.Proofs.Ytjlmcjjejmkahaa
open Go.RowKit
set_option maxRecDepth 4000

set_option maxHeartbeats 400000 in
theorem one_any (n : Nat) : ∀ (w : World), n < 9223372036854775808 →
    Calls Try.prog 25 #[.int .i64 (n : Int)] w fun e w' => ∃ v', e = .returned v' ∧ Own w' w.heap.size 5 v' (Wire.code n) ∧ Below w.heap.size w w' := by
  induction n using Nat.strongRecOn with
  | ind n ih =>
    intro w hn
    have IH := Lib.hid ih
    clear ih
    by_cases hlt : n < 128
    · have E1 := Lib.hid (show ((UInt8.ofNat n).toNat : Int) = (n : Int) by rw [Wire.ofNat_toNat _ (by omega)])
      rw [Wire.code_small hlt]
      generalize UInt8.ofNat n = q at E1
      go_enter Try.func25, Try.ntmps25
      go_wp2
      go_ret
      refine ⟨_, rfl, ?_, (Below.refl _ _).alloc (Nat.le_refl _) _⟩
      exact own_new w _ [q] _ (by rw [List.map_singleton]; unfold cellOf; rw [E1.out]) (by simp [maxLen])
    · have E1 := Lib.hid (byte_hi n)
      rw [Wire.code_big hlt]
      have HY := Lib.hid (IH.out (n / 128) (by omega))
      have hl := Wire.code_len9 (n / 128) (by omega)
      clear IH
      generalize Wire.code (n / 128) = ys at HY hl ⊢
      generalize UInt8.ofNat (n % 128 + 128) = q at E1
      go_enter Try.func25, Try.ntmps25
      go_wp2_with fail
      have hi := HY.out (w.alloc (.cells #[.int .u8 ((n : Int) % 128 + 128)] 5)) (by omega)
      rw [Int.natCast_ediv] at hi
      refine hi.mono ?_
      rintro e w2 ⟨v2, rfl, ho2, hb2⟩
      have ho1 : Own (w.alloc (.cells #[.int .u8 ((n : Int) % 128 + 128)] 5)) w.heap.size 5 (.slice (some ⟨w.heap.size, 0, none⟩) 1 1) [q] := own_new w _ [q] _ (by rw [List.map_singleton]; unfold cellOf; rw [E1.out]) (by simp [maxLen])
      have HO1 := Lib.hid (ho1.keep fun k hk => hb2.block k (ho1.lt k hk))
      have HB2 := Lib.hid (((Below.refl w.heap.size w).alloc (Nat.le_refl _) _).trans (hb2.mono (by simp)))
      have hsz := HB2.out.size
      obtain ⟨A2, c2, rfl, hr2⟩ := ho2.reads
      have HR2 := Lib.hid hr2
      clear ho1 ho2 hb2 hr2 hi
      go_wp2_with (at_builtin; refine wpList_append_bytes _ rfl _ _ _ rfl w.heap.size 5 Try.underlying24 info8 _ [q] rfl HO1.out w2.heap.size A2 _ c2 ys rfl HR2.out (by simp; omega) hsz ?_)
      intro v3 w3 ho3 hg3 _
      have HO3 := Lib.hid ho3
      have HB3 := Lib.hid (HB2.out.grown hg3 hsz HO1.out.block)
      clear ho3 hg3
      go_wp2
      go_ret
      exact ⟨v3, rfl, HO3.out, HB3.out⟩

set_option maxHeartbeats 400000 in
theorem rnumber_any (A : Option Addr) (n c B : Nat) (zs : List Int) (w : World) (hn : n ≤ 1000000000) (hr : Nums w B A n zs) (hB : B ≤ w.heap.size) :
    Calls Try.prog 13 #[.slice A n c] w fun e w' => ∃ v', e = .returned v' ∧ Own w' w.heap.size 5 v' (Wire.codes zs) ∧ Below w.heap.size w w' := by
  have HR := Lib.hid hr
  clear hr
  go_enter Try.func13, Try.ntmps13
  go_wp2
  go_loopw [3, 4] (fun v i wr => ∃ k : Nat, k ≤ n ∧ i = .int .i64 k ∧ Own wr w.heap.size 5 v (Wire.codes (zs.take k)) ∧ Below w.heap.size w wr) (fun _ i _ => n - (intOf i).toNat)
  case atStart => exact ⟨0, by omega, rfl, ⟨rfl, .inl ⟨rfl, rfl⟩⟩, Below.refl _ _⟩
  case round =>
    obtain ⟨k, hk, rfl, ho, hb⟩ := hrel
    have HO := Lib.hid ho
    have HB := Lib.hid hb
    have hsz := hb.size
    clear ho hb
    by_cases hlt : k < n
    · obtain ⟨b, off, z, rfl, hbB, hx, hc, hz1, hz2⟩ := (nums_keep (nums_more HR.out hB) HB.out).at_ hlt
      have HX := Lib.hid hx
      have HL := Lib.hid (codes_take_len (nums_le HR.out) k (by omega))
      clear hx
      by_cases hz : z < 0
      · have HO' : Hid (Own wr w.heap.size 5 u3 (Wire.codes (zs.take (k + 1)))) := by rw [codes_next HX.out, if_pos hz, List.append_nil]; exact HO
        go_wp2
        go_roundw
        case rel => exact ⟨k + 1, by omega, by go_num, HO'.out, HB.out⟩
        case measure => simp [intOf]; omega
      · obtain ⟨m, rfl⟩ := Int.eq_ofNat_of_zero_le (show 0 ≤ z by omega)
        have hl := Wire.code_len9 m (by omega)
        have HC : Hid (Wire.codes (zs.take (k + 1)) = Wire.codes (zs.take k) ++ Wire.code m) := by rw [codes_next HX.out, if_neg hz, Int.toNat_natCast]; exact Lib.hid rfl
        go_wp2_with fail
        refine (one_any m _ (by omega)).mono ?_
        rintro e w2 ⟨v2, rfl, ho2, hb2⟩
        have HO1 := Lib.hid (HO.out.keep fun k hk => hb2.block k (HO.out.lt k hk))
        have HB2 := Lib.hid (HB.out.trans (hb2.mono hsz))
        have hsz2 := HB2.out.size
        obtain ⟨A2, c2, rfl, hr2⟩ := ho2.reads
        have HR2 := Lib.hid hr2
        clear ho2 hb2 hr2
        go_wp2_with (at_builtin; refine wpList_append_bytes _ rfl _ _ _ rfl w.heap.size 5 Try.underlying24 info8 _ (Wire.codes (zs.take k)) rfl HO1.out w2.heap.size A2 _ c2 (Wire.code m) rfl HR2.out (by have := HL.out; omega) hsz2 ?_)
        intro v3 w3 ho3 hg3 _
        have HO3 : Hid (Own w3 w.heap.size 5 v3 (Wire.codes (zs.take (k + 1)))) := by rw [HC.out]; exact Lib.hid ho3
        have HB3 := Lib.hid (HB2.out.grown hg3 hsz2 HO1.out.block)
        clear ho3 hg3
        go_wp2
        go_roundw
        case rel => exact ⟨k + 1, by omega, by go_num, HO3.out, HB3.out⟩
        case measure => simp [intOf]; omega
    · obtain rfl : k = n := by omega
      go_wp2
      go_ret
      refine ⟨_, rfl, ?_, HB.out⟩
      have e := HO.out
      rwa [List.take_of_length_le (by rw [HR.out.1]; exact Nat.le_refl _)] at e

theorem bytes_take {w : World} {B : Nat} {A : Option Addr} {n : Nat} {xs : List UInt8} (h : Bytes w B A n xs) {m : Nat} (hm : m ≤ n) : Bytes w B A m (xs.take m) := by
  have hl := h.1
  refine ⟨by simp; omega, fun i hi => ?_⟩
  simp at hi
  obtain ⟨b, off, e, hb, hc⟩ := h.2 i (by omega)
  exact ⟨b, off, e, hb, by simpa using hc⟩

theorem digit_oru (xs : List UInt8) (k : Nat) (x : UInt8) (hx : xs[k]? = some x) (hk : k < 9) :
    bits .or .u64 (Wire.val (xs.take k) : Int) (IntKind.u64.wrap ((x.toNat : Int) % 128 * 2 ^ (7 * k))) = (Wire.val (xs.take (k + 1)) : Int) := by
  have h1 := digit_nat (x.toNat % 128) k (by omega) hk
  have e : (x.toNat : Int) % 128 * 2 ^ (7 * k) = (((x.toNat % 128) <<< (7 * k) : Nat) : Int) := by rw [Nat.shiftLeft_eq]; simp
  have h2 := Wire.val_take_lt xs k (by omega)
  rw [IntKind.wrap_u64, e, Int.emod_eq_of_lt (Int.natCast_nonneg _) (by omega), u64_or_nat _ _ (by omega) (by omega), Wire.val_or, Wire.val_take_succ hx]

set_option maxHeartbeats 400000 in
theorem rtakeNumber_any (A : Option Addr) (n c B : Nat) (xs : List UInt8) (w : World) (hnc : n ≤ c) (_hcm : c ≤ maxLen) (hr : Bytes w B A n xs) (hB : B ≤ w.heap.size) :
    Calls Try.prog 15 #[.slice A n c] w fun e w' => e = .returned (.tuple #[.int .i64 (tn xs).1, .int .i64 (tn xs).2.1, .int .i64 (tn xs).2.2]) ∧ Below w.heap.size w w' := by
  have hcm := _hcm
  unfold maxLen at hcm
  clear _hcm
  have HR := Lib.hid hr
  clear hr
  go_enter Try.func15, Try.ntmps15
  go_wp2
  go_loop [5, 6] (fun t i => ∃ k : Nat, k ≤ n ∧ k ≤ 9 ∧ i = .int .i64 k ∧ t = .int .u64 (Wire.val (xs.take k)) ∧ Wire.high (xs.take k)) (fun _ i => n - (intOf i).toNat)
  case atStart => exact ⟨0, by omega, by omega, rfl, rfl, Wire.high_nil⟩
  case round =>
    obtain ⟨k, hk, hk9, rfl, rfl, hh⟩ := hrel
    have HH := Lib.hid hh
    clear hh
    have hv := Wire.val_take_lt xs k hk9
    obtain ⟨m, hm⟩ : ∃ m, m = Wire.val (xs.take k) := ⟨_, rfl⟩
    rw [← hm] at hv ⊢
    have HM := Lib.hid hm
    clear hm
    by_cases hlt : k < n
    · obtain ⟨b, off, x, rfl, _, hx, hc⟩ := HR.out.at_ hlt
      have hx8 := u8_bd x
      have HX := Lib.hid hx
      clear hx
      have hx7 : 0 ≤ (x.toNat : Int) % 128 ∧ (x.toNat : Int) % 128 < 128 := by omega
      by_cases h9 : k < 9
      · have hs0 : 0 ≤ 7 * (k : Int) := by omega
        have HD := Lib.hid (digit_oru xs k x HX.out h9)
        rw [← HM.out] at HD
        have HV := Lib.hid (Wire.val_take_lt xs (k + 1) (by omega))
        by_cases hl : x.toNat < 128
        · have HI := Lib.hid (Wire.again_iff HH.out h9 HX.out hl)
          have HT := Lib.hid (Wire.takes_at HH.out h9 HX.out hl)
          have HZ := Lib.hid (Wire.takes_zero HH.out h9 HX.out)
          have HP := Lib.hid (bytes_take HR.out (show k + 1 ≤ n by omega))
          go_wp2_with fail
          rw [HD.out, wrap64_nat _ HV.out]
          generalize Wire.val (xs.take (k + 1)) = M at HV HI HT
          generalize xs.take (k + 1) = ys at HI HP
          have hM := HV.out
          refine (one_any M w hM).mono ?_
          rintro e w2 ⟨v2, rfl, ho2, hb2⟩
          obtain ⟨A2, c2, rfl, hr2⟩ := ho2.reads
          have hs1 := run_strs (P := Try.prog) w2 24 9 5 Try.underlying24 Try.underlying5 Try.underlying9 (c := c2) hr2
          have hs2 := run_strs (P := Try.prog) w2 24 9 5 Try.underlying24 Try.underlying5 Try.underlying9 (c := c) (bytes_keep (bytes_more HP.out hB) hb2)
          have HB2 := Lib.hid hb2
          clear ho2 hr2 hb2
          generalize (Wire.code M).length = l2 at hs1 ⊢
          by_cases hz : 0 < k ∧ x.toNat = 0
          · have hd := str_ne (fun e => HI.out.1 e hz)
            generalize str (Wire.code M) = S1 at hs1 hd
            generalize str ys = S2 at hs2 hd
            go_wp2
            go_quiet (fail)
            clear hs1 hs2 hd
            go_wp2
            go_ret3
            exact ⟨ret_tn (tn_none (HZ.out hz.1 hz.2)), below_draws HB2.out nq⟩
          · have hd := str_eq (HI.out.2 hz)
            generalize str (Wire.code M) = S1 at hs1 hd
            generalize str ys = S2 at hs2 hd
            go_wp2
            go_quiet (fail)
            clear hs1 hs2 hd
            go_wp2
            go_ret3
            exact ⟨ret_tn (tn_some (HT.out hz)), below_draws HB2.out nq⟩
        · go_wp2
          go_round
          case rel => exact ⟨k + 1, by omega, by omega, by go_num, val_int HD.out, Wire.high_take_succ HH.out HX.out (by omega)⟩
          case measure => simp [intOf]; omega
      · obtain rfl : k = 9 := by omega
        go_wp2
        go_ret3
        exact ⟨ret_tn (tn_none (Wire.takes_none HH.out (.inl rfl))), Below.refl _ _⟩
    · obtain rfl : k = n := by omega
      go_wp2
      go_ret3
      exact ⟨ret_tn (tn_none (Wire.takes_none HH.out (.inr ⟨hk9, HR.out.1.symm⟩))), Below.refl _ _⟩

/-- The first k of the four bytes. -/
theorem fx_len (n : Nat) : (Wire.fx n).length = 4 := rfl

theorem fx_next (n k : Nat) (hk : k < 4) : (Wire.fx n).take (k + 1) = (Wire.fx n).take k ++ [UInt8.ofNat (n / 256 ^ k)] := by
  rw [List.take_succ_eq_append_getElem (by rw [fx_len]; exact hk)]
  congr 2
  rcases (show k = 0 ∨ k = 1 ∨ k = 2 ∨ k = 3 by omega) with rfl | rfl | rfl | rfl <;> simp [Wire.fx]

theorem byte_low (n : Nat) : ((UInt8.ofNat n).toNat : Int) = (n : Int) % 256 := by
  rw [UInt8.toNat_ofNat']
  omega

set_option maxHeartbeats 400000 in
theorem rfixed_any (n : Int) (w : World) (h0 : 0 ≤ n) (h1 : n ≤ 4294967295) :
    Calls Try.prog 19 #[.int .u32 n] w fun e w' => ∃ v', e = .returned v' ∧ Own w' w.heap.size 5 v' (Wire.fx n.toNat) ∧ Below w.heap.size w w' := by
  obtain ⟨n, rfl⟩ := Int.eq_ofNat_of_zero_le h0
  rw [Int.toNat_natCast]
  go_enter Try.func19, Try.ntmps19
  go_wp2
  go_loopw [0, 3, 4] (fun t v i wr => ∃ k m : Nat, k ≤ 4 ∧ m ≤ n ∧ m = n / 256 ^ k ∧ t = .int .u32 m ∧ i = .int .i64 k ∧ Own wr w.heap.size 5 v ((Wire.fx n).take k) ∧ Below w.heap.size w wr) (fun _ _ i _ => 4 - (intOf i).toNat)
  case atStart => exact ⟨0, n, by omega, Nat.le_refl _, by simp, rfl, rfl, ⟨rfl, .inl ⟨rfl, rfl⟩⟩, Below.refl _ _⟩
  case round =>
    obtain ⟨k, m, hk, hmn, hm, rfl, rfl, ho, hb⟩ := hrel
    have HO := Lib.hid ho
    have HB := Lib.hid hb
    have HM := Lib.hid hm
    have hsz := hb.size
    clear ho hb hm
    by_cases hlt : k < 4
    · have E1 := Lib.hid (byte_low m)
      have HN := Lib.hid (fx_next n k hlt)
      rw [← HM.out] at HN
      have HL := Lib.hid (show ((Wire.fx n).take k).length + 1 ≤ 140737488355328 by rw [List.length_take]; omega)
      generalize UInt8.ofNat m = q at E1 HN
      go_wp2_with (at_builtin; refine wpList_append_bytes _ rfl _ _ _ rfl w.heap.size 5 Try.underlying24 info8 _ ((Wire.fx n).take k) rfl (HO.out.alloc _) (wr.heap.size + 1) (some ⟨wr.heap.size, 0, none⟩) 1 1 [q] rfl (bytes_new wr [q] _ _ _ (by rw [List.map_singleton, E1.out])) HL.out (by simp; omega) ?_)
      intro v2 w2 hown2 hgrow hlies
      have HB2 := Lib.hid ((HB.out.alloc hsz _).grown hgrow (by simp; omega) HO.out.block)
      have HO2 : Hid (Own w2 w.heap.size 5 v2 ((Wire.fx n).take (k + 1))) := by rw [HN.out]; exact Lib.hid hown2
      clear hown2 hgrow hlies
      go_wp2
      go_roundw
      case rel => exact ⟨k + 1, m / 256, by omega, by omega, by rw [HM.out, Nat.pow_succ, Nat.div_div_eq_div_mul], by go_num, by go_num, HO2.out, HB2.out⟩
      case measure => simp [intOf]; omega
    · obtain rfl : k = 4 := by omega
      go_wp2
      go_ret
      exact ⟨_, rfl, HO.out, HB.out⟩

theorem fk_four {xs : List UInt8} {a b c d : UInt8} (h0 : xs[0]? = some a) (h1 : xs[1]? = some b) (h2 : xs[2]? = some c) (h3 : xs[3]? = some d) : (Wire.fk xs 4 : Int) = (a.toNat : Int) + 256 * b.toNat + 65536 * c.toNat + 16777216 * d.toNat := by
  simp only [Wire.fk, List.getD, h0, h1, h2, h3, Option.getD_some]
  omega

set_option maxHeartbeats 400000 in
theorem rtakeFixed_any (A : Option Addr) (n c B : Nat) (xs : List UInt8) (w : World) (hn : n ≤ maxLen) (hr : Bytes w B A n xs) :
    Calls Try.prog 17 #[.slice A n c] w fun e w' => e = .returned (.tuple #[.int .u32 (tf xs).1, .int .i64 (tf xs).2]) ∧ Below w.heap.size w w' := by
  unfold maxLen at hn
  have HR := Lib.hid hr
  clear hr
  have HL := Lib.hid HR.out.1
  by_cases h4 : n < 4
  · go_enter Try.func17, Try.ntmps17
    go_wp2
    go_ret2
    unfold tf
    rw [HL.out, if_pos h4]
    exact ⟨rfl, Below.refl _ _⟩
  · obtain ⟨b, off, x0, rfl, _, hx0, hc0⟩ := HR.out.at_ (k := 0) (by omega)
    obtain ⟨b1, off1, x1, he, _, hx1, hc1⟩ := HR.out.at_ (k := 1) (by omega)
    cases he
    obtain ⟨b1, off1, x2, he, _, hx2, hc2⟩ := HR.out.at_ (k := 2) (by omega)
    cases he
    obtain ⟨b1, off1, x3, he, _, hx3, hc3⟩ := HR.out.at_ (k := 3) (by omega)
    cases he
    rw [Nat.add_zero] at hc0
    have e : tf xs = ((x0.toNat : Int) + 256 * x1.toNat + 65536 * x2.toNat + 16777216 * x3.toNat, 0) := by
      unfold tf
      rw [HL.out, if_neg h4, fk_four hx0 hx1 hx2 hx3]
    rw [e]
    clear e hx0 hx1 hx2 hx3
    have b0 := u8_bd x0
    have b1 := u8_bd x1
    have b2 := u8_bd x2
    have b3 := u8_bd x3
    go_enter Try.func17, Try.ntmps17
    go_wp2
    go_quiet (fail)
    go_wp2
    go_ret2
    exact ⟨rfl, below_draws (Below.refl _ _) nq⟩

set_option maxHeartbeats 400000 in
theorem rtext_any (A : Option Addr) (n c B : Nat) (xs : List UInt8) (w : World) (hn : n ≤ 100000000000) (hr : Bytes w B A n xs) (hB : B ≤ w.heap.size) :
    Calls Try.prog 23 #[.slice A n c] w fun e w' => ∃ v', e = .returned v' ∧ Own w' w.heap.size 5 v' (Wire.code n ++ xs) ∧ Below w.heap.size w w' := by
  have HR := Lib.hid hr
  clear hr
  go_enter Try.func23, Try.ntmps23
  go_wp2_with fail
  refine (one_any n w (by omega)).mono ?_
  rintro e w2 ⟨v2, rfl, ho2, hb2⟩
  have hl := Wire.code_len9 n (by omega)
  have HO2 := Lib.hid ho2
  have HB2 := Lib.hid hb2
  have hsz := hb2.size
  clear ho2 hb2
  go_wp2_with (at_builtin; refine wpList_append_bytes _ rfl _ _ _ rfl w.heap.size 5 Try.underlying24 info8 _ (Wire.code n) rfl HO2.out w.heap.size A n c xs rfl (bytes_keep (bytes_more HR.out hB) HB2.out) (by omega) hsz ?_)
  intro v3 w3 ho3 hg3 _
  have HO3 := Lib.hid ho3
  have HB3 := Lib.hid (HB2.out.grown hg3 hsz HO2.out.block)
  clear ho3 hg3
  go_wp2
  go_ret
  exact ⟨v3, rfl, HO3.out, HB3.out⟩

set_option maxHeartbeats 400000 in
theorem rtakeText_any (A : Option Addr) (n c B : Nat) (xs : List UInt8) (w : World) (hn : n ≤ 100000000000) (hnc : n ≤ c) (hcm : c ≤ maxLen) (hr : Bytes w B A n xs) (hB : B ≤ w.heap.size) :
    Calls Try.prog 21 #[.slice A n c] w fun e w' => ∃ v', e = .returned (.tuple #[v', .int .i64 (tt xs).2.1, .int .i64 (tt xs).2.2]) ∧ Own w' w.heap.size 5 v' (tt xs).1 ∧ Below w.heap.size w w' := by
  have HR := Lib.hid hr
  have HL := Lib.hid hr.1
  have HT := Lib.hid (rtakeNumber_any A n c B xs w hnc hcm hr hB)
  unfold maxLen at hcm
  clear hr
  rcases ht : Wire.takes xs with _ | ⟨m, k⟩
  · have e1 : tt xs = ([], 0, 3) := by unfold tt; rw [ht]
    rw [tn_none ht] at HT
    rw [e1]
    clear e1 ht
    go_enter Try.func21, Try.ntmps21
    go_wp2_with fail
    refine HT.out.mono ?_
    rintro e w2 ⟨rfl, hb2⟩
    have HB2 := Lib.hid hb2
    clear hb2
    go_wp2
    go_ret3
    exact ⟨_, rfl, ⟨rfl, .inl ⟨rfl, rfl⟩⟩, HB2.out⟩
  · obtain ⟨h1, h2, h3, h4, _⟩ := Wire.takes_some ht
    rw [HL.out] at h3
    rw [tn_some ht] at HT
    by_cases hlt : n - k < m
    · have e1 : tt xs = ([], 0, 3) := by unfold tt; rw [ht]; simp only; rw [HL.out, if_pos hlt]
      rw [e1]
      clear e1 ht
      go_enter Try.func21, Try.ntmps21
      go_wp2_with fail
      refine HT.out.mono ?_
      rintro e w2 ⟨rfl, hb2⟩
      have HB2 := Lib.hid hb2
      clear hb2
      go_wp2
      go_ret3
      exact ⟨_, rfl, ⟨rfl, .inl ⟨rfl, rfl⟩⟩, HB2.out⟩
    · have e1 : tt xs = ((xs.drop k).take m, ((k + m : Nat) : Int), 0) := by unfold tt; rw [ht]; simp only; rw [HL.out, if_neg hlt]
      rw [e1]
      clear e1 ht
      have HP := Lib.hid (bytes_part HR.out (k := k) (m := m) (cap := c) (by omega) hnc)
      generalize (xs.drop k).take m = ys at HP
      rw [show m = k + m - k by omega] at HP
      rcases Decidable.em (k = c) with rfl | hcf
      all_goals
        first | rw [if_pos rfl] at HP | rw [if_neg (fun e => hcf e.symm)] at HP
        go_enter Try.func21, Try.ntmps21
        go_wp2_with fail
        refine HT.out.mono ?_
        rintro e w2 ⟨rfl, hb2⟩
        have HB2 := Lib.hid hb2
        have hsz := hb2.size
        clear hb2
        have hb0 : Below w.heap.size w (w2.alloc (.cells #[] 5)) := HB2.out.alloc hsz _
        go_wp2_with (at_builtin; refine wpList_append_bytes _ rfl _ _ _ rfl w.heap.size 5 Try.underlying24 info8 _ [] rfl ((own_new w2 5 [] #[] rfl (Nat.zero_le _)).le hsz) w.heap.size _ (k + m - k) _ ys rfl (bytes_keep (bytes_more HP.out hB) hb0) (by simp; omega) (by simp; omega) ?_)
        intro v3 w3 ho3 hg3 _
        have HO3 := Lib.hid ho3
        have HB3 := Lib.hid (hb0.grown hg3 (by simp; omega) (fun k hk => by simp [Value.ownBlock] at hk; omega))
        clear ho3 hg3
        go_wp2
        go_ret3
        exact ⟨v3, by simp, HO3.out, HB3.out⟩
end Go.Proofs.Ytjlmcjjejmkahaa
