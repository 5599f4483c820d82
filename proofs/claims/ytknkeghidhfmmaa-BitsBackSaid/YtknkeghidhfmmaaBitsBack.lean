/-
  BitsBack: for every slice of bytes and every two ints the law answers true, and the slice reads afterwards as it read before. No condition.
-/
import Derived.Test.YtknkeghidhfmmaaBitsKit
namespace Go.Proofs.Ytknkeghidhfmmaa.bitsBack
open Go.ChangeShapes Go.WideShapes Go.ChangeAt Go.RowKit Go.Proofs.Ytknkeghidhfmmaa.BitsPkg
set_option maxRecDepth 4000

set_option maxHeartbeats 2000000 in
theorem walk (A : Option Addr) (n c : Nat) (xs : List UInt8) (i o : Int) (w : World) (hnc : n ≤ c) (hcm : c ≤ maxLen) (hr : Bytes w w.heap.size A n xs) (h0 : -9223372036854775808 ≤ i) (h1 : i ≤ 9223372036854775807) (h2 : -9223372036854775808 ≤ o) (h3 : o ≤ 9223372036854775807) :
    Calls Try.prog 7 #[.slice A n c, .int .i64 i, .int .i64 o] w fun e w' => e = .returned (.bool true) ∧ Below w.heap.size w w' := by
  have HR := Lib.hid hr
  have HL := Lib.hid hr.1
  clear hr
  have hn := Nat.le_trans hnc hcm
  unfold maxLen at hn hcm
  go_enter Try.func7, Try.ntmps7
  go_wp2_with fail
  refine (awake_any _).mono ?_
  rintro e w1 ⟨rfl, hb⟩
  have HR1 := Lib.hid (bytes_keep HR.out hb)
  have HB := Lib.hid hb
  clear hb
  by_cases hl : 3000 < n
  · go_wp2
    go_ret
    exact ⟨rfl, HB.out⟩
  · by_cases hin : i < 0 ∨ 8 * (n : Int) ≤ i
    · have HIN := Lib.hid hin
      clear hin
      go_wp2_with fail
      refine (get_out A n c i w1 (by omega) HIN.out).mono ?_
      rintro e w2 ⟨rfl, k, rfl⟩
      go_wp2_with fail
      refine (set_out A n c i true _ (by omega) HIN.out).mono ?_
      rintro e w2 ⟨rfl, hw⟩; subst w2
      rcases HIN.out with hi | hi
      · go_wp2
        go_ret
        exact ⟨rfl, below_draws HB.out k⟩
      · have hi2 : ¬ i < 0 := by omega
        have hi3 : (n : Int) ≤ i / 8 := by omega
        go_wp2
        go_ret
        exact ⟨by simp, below_draws HB.out k⟩
    · obtain ⟨i, rfl⟩ := Int.eq_ofNat_of_zero_le (show 0 ≤ i by omega)
      have hin2 : i < 8 * n := by omega
      clear hin
      obtain ⟨t, ht⟩ : ∃ t, t = Bits.bit xs i := ⟨_, rfl⟩
      have HG := Lib.hid (show Bits.get xs (i : Int) = t by rw [Bits.get_nat, ht])
      have HY := Lib.hid (show Bits.put_at (Bits.put_at xs i (!t)) i t = xs by rw [ht]; exact Bits.put_at_back (by rw [HL.out]; omega))
      obtain ⟨ys, hys⟩ : ∃ ys, ys = Bits.put_at xs i (!t) := ⟨_, rfl⟩
      have HY1 := Lib.hid (show Bits.get ys (i : Int) = !t by rw [hys, Bits.get_nat]; exact Bits.bit_put_same (by rw [HL.out]; omega) _)
      have HY2 := Lib.hid (show o ≠ (i : Int) → Bits.get ys o = Bits.get xs o from fun hne => by
        rcases Int.lt_or_le o 0 with ho | ho
        · rw [Bits.get_neg ho, Bits.get_neg ho]
        · obtain ⟨o, rfl⟩ := Int.eq_ofNat_of_zero_le ho
          rw [Bits.get_nat, Bits.get_nat, hys]
          exact Bits.bit_put_other (by omega) _)
      rw [← hys] at HY
      have HYS := Lib.hid hys
      clear ht hys
      go_wp2_with fail
      refine (get_is A n c _ xs (i : Int) w1 (by omega) HR1.out).mono ?_
      rintro e w2 ⟨rfl, hb⟩
      rw [HG.out]
      replace HR1 := Lib.hid (bytes_on HR1.out HB.out.size hb)
      replace HB := Lib.hid (below_on HB.out hb)
      clear hb
      go_wp2_with fail
      refine (set_is A n c _ xs i (!t) w2 (by omega) HR1.out HB.out.size hin2).mono ?_
      rintro e w3 ⟨A3, rfl, hr3, hb⟩
      rw [← HYS.out] at hr3
      replace HR1 := Lib.hid (bytes_on HR1.out HB.out.size hb)
      replace HB := Lib.hid (below_on HB.out hb)
      have HR3 := Lib.hid hr3
      clear hb hr3
      go_wp2_with fail
      refine (get_is A3 n n _ ys (i : Int) w3 (by omega) HR3.out).mono ?_
      rintro e w4 ⟨rfl, hb⟩
      rw [HY1.out]
      replace HR1 := Lib.hid (bytes_on HR1.out HB.out.size hb)
      replace HR3 := Lib.hid (bytes_keep HR3.out hb)
      replace HB := Lib.hid (below_on HB.out hb)
      have HW3 := Lib.hid hb.size
      clear hb
      have HSTR : ∀ (w6 : World) (A6 : Option Addr), Bytes w6 w6.heap.size A6 n xs → Bytes w6 w.heap.size A n xs →
          (convert 22 9 (.slice A6 n n)).run Try.prog w6 = .ok (.string (str xs)) w6 ∧ (convert 22 9 (.slice A n c)).run Try.prog w6 = .ok (.string (str xs)) w6 := fun w6 A6 h1 h2 =>
        ⟨run_str (P := Try.prog) w6 22 9 5 Try.underlying22 Try.underlying5 Try.underlying9 (c := n) h1, run_str (P := Try.prog) w6 22 9 5 Try.underlying22 Try.underlying5 Try.underlying9 (c := c) h2⟩
      have HSTR := Lib.hid HSTR
      have hq := str_eq (rfl : xs = xs)
      have hnt : ((!t) == t) = false := by cases t <;> rfl
      by_cases ho : o = (i : Int)
      · have ho2 : (o != (i : Int)) = false := by simp [ho]
        clear ho
        go_wp2_with fail
        refine (set_is A3 n n _ ys i t w4 (by omega) HR3.out HW3.out hin2).mono ?_
        rintro e w5 ⟨A5, rfl, hr5, hb⟩
        rw [HY.out] at hr5
        replace HR1 := Lib.hid (bytes_on HR1.out HB.out.size hb)
        replace HB := Lib.hid (below_on HB.out hb)
        obtain ⟨hs1, hs2⟩ := HSTR.out w5 A5 hr5 HR1.out
        clear hb hr5
        go_wp2
        go_ret
        exact ⟨rfl, HB.out⟩
      · have ho2 : (o != (i : Int)) = true := by simpa using ho
        have HY3 := Lib.hid (HY2.out ho)
        obtain ⟨u, hu⟩ : ∃ u, u = Bits.get xs o := ⟨_, rfl⟩
        rw [← hu] at HY3
        have HU := Lib.hid hu
        clear hu
        go_wp2_with fail
        refine (get_is A3 n n _ ys o w4 (by omega) HR3.out).mono ?_
        rintro e w5 ⟨rfl, hb⟩
        rw [HY3.out]
        replace HR1 := Lib.hid (bytes_on HR1.out HB.out.size hb)
        replace HR3 := Lib.hid (bytes_keep HR3.out (hb.mono HW3.out))
        replace HB := Lib.hid (below_on HB.out hb)
        replace HW3 := Lib.hid (Nat.le_trans HW3.out hb.size)
        clear hb
        go_wp2_with fail
        refine (get_is A n c _ xs o w5 (by omega) HR1.out).mono ?_
        rintro e w6 ⟨rfl, hb⟩
        rw [← HU.out]
        replace HR1 := Lib.hid (bytes_on HR1.out HB.out.size hb)
        replace HR3 := Lib.hid (bytes_keep HR3.out (hb.mono HW3.out))
        replace HB := Lib.hid (below_on HB.out hb)
        replace HW3 := Lib.hid (Nat.le_trans HW3.out hb.size)
        clear hb
        go_wp2_with fail
        refine (set_is A3 n n _ ys i t w6 (by omega) HR3.out HW3.out hin2).mono ?_
        rintro e w7 ⟨A5, rfl, hr5, hb⟩
        rw [HY.out] at hr5
        replace HR1 := Lib.hid (bytes_on HR1.out HB.out.size hb)
        replace HB := Lib.hid (below_on HB.out hb)
        obtain ⟨hs1, hs2⟩ := HSTR.out w7 A5 hr5 HR1.out
        clear hb hr5
        go_wp2
        go_ret
        exact ⟨rfl, HB.out⟩

theorem own : ownKnob Try.prog.godebug = none := by kernel_rfl
theorem laid : laidOutB Try.prog = true := by kernel_rfl
theorem one8 : Try.prog.cellsOf 5 = 1 := by kernel_rfl

set_option maxRecDepth 100000 in
theorem lifted (os : Os) (started : os.Started) (H : Type) (enc : TypeId × Value → H) :
    ReturnsInHanded {} Try.checked os 7 .any (Rows.bitsBackSpec.pre6 enc Try.prog Try.f7 Rows.bitsBackRow.domain false) (Rows.bitsBackSpec.post enc Try.prog Try.f7 false true false false) := by
  refine returnsInHanded_of_change (C := Try.checked) own started (by kernel_rfl) Try.func7
    (ChangeSpec.witness6 (enc := enc) (C := Try.checked) false ⟨#[], #[.slice none 0 0, .int .i64 0, .int .i64 0], []⟩ 8 (by kernel_rfl) (by kernel_rfl) (by kernel_rfl) (by kernel_rfl)) ?_
  intro W base args ds gs before hval0 hW _ _
  have hval : ∀ (j : Nat) t v, Try.f7.params[j]? = some t → args[j]? = some v → Value.okWide Try.prog W .any base t v := hval0
  have hW' := hW
  obtain ⟨p, q, hA0, hV, rfl, hfz, hnd⟩ := hW
  have hA : DataW.TrodAll enc Try.prog W 0 (fun _ => true) true Try.f7.params.toList args.toList ds p := hA0
  rw [Try.params7] at hA hval
  obtain ⟨v0, v1, v2, d0, d1, d2, p0, p1, p2, rfl, rfl, rfl, h0, h1, h2⟩ := trodAll_three hA
  obtain ⟨A0, n0, c0, xs0, rfl, hnc0, hcm0, hr0⟩ := open_bytes Try.underlying22 Try.underlying5 one8 (hval 0 22 v0 rfl rfl) h0
  obtain ⟨a1, rfl, rfl, rfl, wf1⟩ := open_int Try.underlying3 (hval 1 3 v1 rfl rfl) h1
  have hb1 : -9223372036854775808 ≤ a1 ∧ a1 ≤ 9223372036854775807 := by simpa [Lit.wf, IntKind.min, IntKind.max, IntKind.signed, IntKind.bits] using wf1
  obtain ⟨a2, rfl, rfl, rfl, wf2⟩ := open_int Try.underlying3 (hval 2 3 v2 rfl rfl) h2
  have hb2 : -9223372036854775808 ≤ a2 ∧ a2 ≤ 9223372036854775807 := by simpa [Lit.wf, IntKind.min, IntKind.max, IntKind.signed, IntKind.bits] using wf2
  refine (walk A0 n0 c0 xs0 a1 a2 W hnc0 hcm0 hr0 hb1.1 hb1.2 hb2.1 hb2.2).mono fun e W' ⟨he, hb⟩ => ?_
  subst he
  exact ⟨_, rfl, Law.post laid (by kernel_rfl) (by kernel_rfl) Try.underlying4 rfl hW' rfl hb⟩

theorem proved : Rows.BitsBackSaid :=
  OpenClaim.holds_of_wide 7 Try.f7 rfl rfl rfl rfl rfl rfl rfl ⟨rfl, rfl, rfl, rfl, rfl⟩ rfl rfl rfl rfl rfl (by kernel_rfl) Try.func7 (by kernel_rfl)
    (of_decide_eq_true (by kernel_rfl)) (by unfold Func.isWrapper; first | (rw [if_pos (by decide +kernel)]; kernel_rfl) | (rw [if_neg (by decide +kernel)]; exact ⟨rfl, rfl⟩))
    (fun os started H enc _ => lifted os started H enc)

end Go.Proofs.Ytknkeghidhfmmaa.bitsBack
