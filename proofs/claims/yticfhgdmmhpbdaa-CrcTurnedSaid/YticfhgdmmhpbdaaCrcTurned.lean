/-
  CrcTurned: for every slice of bytes, every int and every number of 32 bits the law answers true, and they read afterwards as they read before. No condition.
-/
import Derived.Test.YticfhgdmmhpbdaaCrcKit
import Derived.RegionTactic
namespace Go.Proofs.Yticfhgdmmhpbdaa.crcTurned
open Go.ChangeShapes Go.WideShapes Go.ChangeAt Go.RowKit

/-- The text with the first k of four neighbouring bytes turned. -/
def turned (xs : List UInt8) (q : Nat) (t : BitVec 32) : Nat → List UInt8
  | 0 => xs
  | k + 1 => (turned xs q t k).set (q + k) ((turned xs q t k).getD (q + k) 0 ^^^ Crc.part t k)

theorem turned_length (xs : List UInt8) (q : Nat) (t : BitVec 32) : ∀ k, (turned xs q t k).length = xs.length
  | 0 => rfl
  | k + 1 => by
    show (List.set _ _ _).length = _
    rw [List.length_set, turned_length xs q t k]

theorem turned_ne (xs : List UInt8) (q : Nat) (t : BitVec 32) (hq : q + 4 ≤ xs.length) (ht : t ≠ 0#32) : Crc.sum (turned xs q t 4) ≠ Crc.sum xs := by
  obtain ⟨pre, rest, rfl, hpre⟩ : ∃ pre rest, xs = pre ++ rest ∧ pre.length = q := ⟨xs.take q, xs.drop q, (List.take_append_drop q xs).symm, by simp; omega⟩
  subst hpre
  rw [List.length_append] at hq
  obtain ⟨x0, x1, x2, x3, post, rfl⟩ : ∃ x0 x1 x2 x3 post, rest = x0 :: x1 :: x2 :: x3 :: post := by
    rcases rest with _ | ⟨x0, _ | ⟨x1, _ | ⟨x2, _ | ⟨x3, post⟩⟩⟩⟩
    · simp at hq; omega
    · simp at hq
    · simp at hq
    · simp at hq
    · exact ⟨x0, x1, x2, x3, post, rfl⟩
  have e : turned (pre ++ x0 :: x1 :: x2 :: x3 :: post) pre.length t 4 = pre ++ [x0 ^^^ Crc.part t 0, x1 ^^^ Crc.part t 1, x2 ^^^ Crc.part t 2, x3 ^^^ Crc.part t 3] ++ post := by
    simp [turned]
  rw [e, show pre ++ x0 :: x1 :: x2 :: x3 :: post = pre ++ [x0, x1, x2, x3] ++ post by simp]
  exact Crc.sum_ne_four pre post x0 x1 x2 x3 t ht

theorem part_at (t : Int) (k : Nat) (h0 : 0 ≤ t) (h1 : t < 4294967296) : t / 2 ^ (8 * k) % 256 = ((Crc.part (bv t) k).toNat : Int) := by
  have e : (Crc.part (bv t) k).toNat = (bv (t / 2 ^ (8 * k))).toNat % 256 := by
    unfold Crc.part
    rw [bv_shr t (8 * k) h0 h1]
    show ((bv t >>> (8 * k)).setWidth 8).toNat = _
    rw [BitVec.toNat_setWidth]
  obtain ⟨m, rfl⟩ := Int.eq_ofNat_of_zero_le h0
  have e2 : ((m : Int) / 2 ^ (8 * k)) = ((m / 2 ^ (8 * k) : Nat) : Int) := by rw [Int.natCast_ediv]; simp
  have hd : m / 2 ^ (8 * k) ≤ m := Nat.div_le_self _ _
  rw [e, e2]
  generalize m / 2 ^ (8 * k) = d at hd
  rw [bv_toNat _ (by omega) (by omega)]
  omega

theorem xor8 (x y : UInt8) : bits .xor .u8 (x.toNat : Int) (y.toNat : Int) = ((x ^^^ y).toNat : Int) := by
  have hx := x.toNat_lt
  have hy := y.toNat_lt
  rw [u8_xor_nat _ _ (by omega) (by omega), UInt8.toNat_xor]

theorem info8 : byteInfo Try.prog 5 := info_parts (by kernel_rfl)

set_option maxHeartbeats 400000 in
theorem walk (A : Option Addr) (n c : Nat) (xs : List UInt8) (p t : Int) (w : World) (hnc : n ≤ c) (hcm : c ≤ maxLen) (hr : Bytes w w.heap.size A n xs)
    (hp0 : -9223372036854775808 ≤ p) (hp1 : p ≤ 9223372036854775807) (ht0 : 0 ≤ t) (ht1 : t ≤ 4294967295) :
    Calls Try.prog 7 #[.slice A n c, .int .i64 p, .int .u32 t] w fun e w' => e = .returned (.bool true) ∧ Below w.heap.size w w' := by
  have HR := Lib.hid hr
  have hn := Nat.le_trans hnc hcm
  clear hr hnc hcm
  have HN := Lib.hid hn
  unfold maxLen at hn
  go_enter Try.func7, Try.ntmps7
  go_wp2_with fail
  refine (awake_any _).mono ?_
  rintro e w1 ⟨rfl, hb⟩
  have HR1 := Lib.hid (bytes_keep HR.out hb)
  have HB := Lib.hid hb
  have hsz := hb.size
  clear hb
  by_cases h1 : n < 4
  · go_wp2
    go_ret
    exact ⟨rfl, HB.out⟩
  by_cases h2 : 20000 < n
  · go_wp2
    go_ret
    exact ⟨rfl, HB.out⟩
  by_cases h3 : p < 0
  · go_wp2
    go_ret
    exact ⟨rfl, HB.out⟩
  by_cases h4 : t = 0
  · subst h4
    go_wp2
    go_ret
    exact ⟨rfl, HB.out⟩
  have hz : (t == 0) = false := beq_eq_false_iff_ne.2 h4
  have HZ := Lib.hid h4
  clear h4
  have d1 : decide ((n : Int) < 4) = false := by simp; omega
  have d2 : decide ((20000 : Int) < n) = false := by simp; omega
  have d3 : decide (p < 0) = false := by simp; omega
  have hb0 : Below w1.heap.size w1 (w1.alloc (.cells #[] 5)) := (Below.refl _ _).alloc (Nat.le_refl _) _
  go_wp2_with (at_builtin; refine wpList_append_bytes _ rfl _ _ _ rfl w1.heap.size 5 Try.underlying22 info8 _ [] rfl (own_new w1 5 [] #[] rfl (Nat.zero_le _)) w1.heap.size A n c xs rfl (bytes_keep (bytes_more HR1.out hsz) hb0) (by simp; omega) (by simp) ?_)
  intro v1 w2 ho1 hg1 _
  have hb2 : Below w1.heap.size w1 w2 := hb0.grown hg1 (by simp) (fun k hk => by simp [Value.ownBlock] at hk; omega)
  have HO1 := Lib.hid ho1
  have HB2 := Lib.hid hb2
  have hsz2 := hb2.size
  clear ho1 hg1 hb2 hb0
  go_wp2
  clear d1 d2 d3 hz
  have hxl := HR1.out.1
  obtain ⟨g, cap, rfl, hgb, hcap, hcapm⟩ := HO1.out.form (by omega)
  have HX := Lib.hid hxl
  rw [hxl] at hcap ⊢
  have HO : Hid (Own w2 w1.heap.size 5 (.slice (some ⟨g, 0, none⟩) n cap) xs) := by
    have h := HO1.out
    rw [hxl] at h
    exact h
  clear HO1 hxl
  have hq0 : 0 ≤ p % ((n : Int) - 3) := Int.emod_nonneg _ (by omega)
  have hq1 : p % ((n : Int) - 3) < (n : Int) - 3 := Int.emod_lt_of_pos _ (by omega)
  generalize p % ((n : Int) - 3) = r at hq0 hq1 ⊢
  obtain ⟨q, rfl⟩ := Int.eq_ofNat_of_zero_le hq0
  go_loopw [9] (fun i wr => ∃ k : Nat, k ≤ 4 ∧ i = .int .i64 k ∧ Own wr w1.heap.size 5 (.slice (some ⟨g, 0, none⟩) n cap) (turned xs q (bv t) k) ∧ Below w1.heap.size w1 wr) (fun i _ => 4 - (intOf i).toNat)
  case atStart => exact ⟨0, by omega, rfl, HO.out, HB2.out⟩
  case round =>
    obtain ⟨k, hk, rfl, ho, hb⟩ := hrel
    have HK := Lib.hid ho
    have HB3 := Lib.hid hb
    clear ho hb
    by_cases hlt : k < 4
    · have hl : q + k < (turned xs q (bv t) k).length := by rw [turned_length, HX.out]; omega
      obtain ⟨hc, hf⟩ := HK.out.cell hl
      unfold cellOf at hc
      have HV := Lib.hid (show bits .xor .u8 (((turned xs q (bv t) k)[q + k]'hl).toNat : Int) (t / 2 ^ (8 * k) % 256) = (((turned xs q (bv t) k)[q + k]'hl ^^^ Crc.part (bv t) k).toNat : Int) by rw [part_at t k ht0 (by omega), xor8])
      have hon := HK.out.set (q + k) ((turned xs q (bv t) k)[q + k]'hl ^^^ Crc.part (bv t) k)
      have hgd : (turned xs q (bv t) k)[q + k]'hl = (turned xs q (bv t) k).getD (q + k) 0 := by simp [List.getD, hl]
      have HON : Hid (Own (wr.setCell ⟨g, q + k, none⟩ (.int .u8 (((turned xs q (bv t) k)[q + k]'hl ^^^ Crc.part (bv t) k).toNat : Int))) w1.heap.size 5 (.slice (some ⟨g, 0, none⟩) n cap) (turned xs q (bv t) (k + 1))) := by
        have h := hon
        show Own (wr.setCell ⟨g, q + k, none⟩ (cellOf ((turned xs q (bv t) k)[q + k]'hl ^^^ Crc.part (bv t) k))) _ _ _ ((turned xs q (bv t) k).set (q + k) ((turned xs q (bv t) k).getD (q + k) 0 ^^^ Crc.part (bv t) k))
        rw [← hgd]
        exact h
      clear hon hgd
      go_wp2
      go_region
      rw [HV.out]
      go_wp2
      go_roundw
      case rel => exact ⟨k + 1, by omega, by go_num, HON.out, (HB3.out.setCell hgb _).drew⟩
      case measure => simp [intOf]; omega
    · obtain rfl : k = 4 := by omega
      obtain ⟨A3, c3, hv3, hr3⟩ := HK.out.reads
      rw [turned_length, HX.out] at hv3 hr3
      obtain ⟨rfl, rfl⟩ : A3 = some ⟨g, 0, none⟩ ∧ c3 = cap := by
        injection hv3 with h1 h2 h3
        exact ⟨h1.symm, h3.symm⟩
      have HR3 := Lib.hid hr3
      clear hv3 hr3
      go_wp2_with fail
      refine (sum_any _ _ _ _ (turned xs q (bv t) 4) _ HN.out HR3.out).mono ?_
      rintro e w4 ⟨rfl, rfl⟩
      go_wp2_with fail
      refine (sum_any _ _ _ _ xs _ HN.out (bytes_keep (bytes_more HR1.out hsz) HB3.out)).mono ?_
      rintro e w5 ⟨rfl, rfl⟩
      have hne : addI 0 (turned xs q (bv t) 4) ≠ addI 0 xs := fun e => by
        refine turned_ne xs q (bv t) (by rw [HX.out]; omega) (fun h => HZ.out ?_) (un_inj e)
        have h2 := congrArg un h
        rwa [un_bv t ht0 (by omega)] at h2
      have hnb : (addI 0 (turned xs q (bv t) 4) != addI 0 xs) = true := bne_iff_ne.2 hne
      clear hne
      go_wp2
      go_ret
      exact ⟨rfl, HB.out.trans (HB3.out.mono hsz)⟩

theorem own : ownKnob Try.prog.godebug = none := by kernel_rfl
theorem laid : laidOutB Try.prog = true := by kernel_rfl
theorem one8 : Try.prog.cellsOf 5 = 1 := by kernel_rfl

set_option maxRecDepth 100000 in
theorem lifted (os : Os) (started : os.Started) (H : Type) (enc : TypeId × Value → H) :
    ReturnsInHanded {} Try.checked os 7 .any (Rows.crcTurnedSpec.pre6 enc Try.prog Try.f7 Rows.crcTurnedRow.domain false) (Rows.crcTurnedSpec.post enc Try.prog Try.f7 false true false false) := by
  refine returnsInHanded_of_change (C := Try.checked) own started (by kernel_rfl) Try.func7
    (ChangeSpec.witness6 (enc := enc) (C := Try.checked) false ⟨#[], #[.slice none 0 0, .int .i64 0, .int .u32 0], []⟩ 8 (by kernel_rfl) (by kernel_rfl) (by kernel_rfl) (by kernel_rfl)) ?_
  intro W base args ds gs before hval0 hW _ _
  have hval : ∀ (j : Nat) t v, Try.f7.params[j]? = some t → args[j]? = some v → Value.okWide Try.prog W .any base t v := hval0
  have hW' := hW
  obtain ⟨p, q, hA0, hV, rfl, hfz, hnd⟩ := hW
  have hA : DataW.TrodAll enc Try.prog W 0 (fun _ => true) true Try.f7.params.toList args.toList ds p := hA0
  rw [Try.params7] at hA hval
  obtain ⟨v0, v1, v2, d0, d1, d2, p0, p1, p2, rfl, rfl, rfl, h0, h1, h2⟩ := trodAll_three hA
  obtain ⟨A0, n0, c0, xs0, rfl, hnc0, hcm0, hr0⟩ := open_bytes Try.underlying22 Try.underlying5 one8 (hval 0 22 v0 rfl rfl) h0
  obtain ⟨a1, rfl, rfl, rfl, wf1⟩ := open_int Try.underlying3 (hval 1 3 v1 rfl rfl) h1
  have hb1 : -9223372036854775808 ≤ a1 ∧ a1 ≤ 9223372036854775807 := by simpa [Lit.wf, IntKind.min, IntKind.max, IntKind.signed, IntKind.bits] using wf1
  obtain ⟨a2, rfl, rfl, rfl, wf2⟩ := open_int Try.underlying24 (hval 2 24 v2 rfl rfl) h2
  have hb2 : 0 ≤ a2 ∧ a2 ≤ 4294967295 := by simpa [Lit.wf, IntKind.min, IntKind.max, IntKind.signed, IntKind.bits] using wf2
  refine (walk A0 n0 c0 xs0 a1 a2 W hnc0 hcm0 hr0 hb1.1 hb1.2 hb2.1 hb2.2).mono fun e W' ⟨he, hb⟩ => ?_
  subst he
  exact ⟨_, rfl, Law.post laid (by kernel_rfl) (by kernel_rfl) Try.underlying4 rfl hW' rfl hb⟩

theorem proved : Rows.CrcTurnedSaid :=
  OpenClaim.holds_of_wide 7 Try.f7 rfl rfl rfl rfl rfl rfl rfl ⟨rfl, rfl, rfl, rfl, rfl⟩ rfl rfl rfl rfl rfl (by kernel_rfl) Try.func7 (by kernel_rfl)
    (of_decide_eq_true (by kernel_rfl)) (by unfold Func.isWrapper; first | (rw [if_pos (by decide +kernel)]; kernel_rfl) | (rw [if_neg (by decide +kernel)]; exact ⟨rfl, rfl⟩))
    (fun os started H enc _ => lifted os started H enc)

end Go.Proofs.Yticfhgdmmhpbdaa.crcTurned
