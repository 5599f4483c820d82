/-
  BitsSets: for every slice of bytes, every int and every bool the law answers true, and the slice reads afterwards as it read before. No condition.
-/
import Derived.Test.YtknkeghidhfmmaaBitsRef3
namespace Go.Proofs.Ytknkeghidhfmmaa.bitsSets
open Go.ChangeShapes Go.WideShapes Go.ChangeAt Go.RowKit Go.Proofs.Ytknkeghidhfmmaa.BitsPkg
set_option maxRecDepth 4000

set_option maxHeartbeats 1000000 in
theorem walk (A : Option Addr) (n c : Nat) (xs : List UInt8) (i : Int) (on : Bool) (w : World) (hnc : n ≤ c) (hcm : c ≤ maxLen) (hr : Bytes w w.heap.size A n xs) (h0 : -9223372036854775808 ≤ i) (h1 : i ≤ 9223372036854775807) :
    Calls Try.prog 4 #[.slice A n c, .int .i64 i, .bool on] w fun e w' => e = .returned (.bool true) ∧ Below w.heap.size w w' := by
  have HR := Lib.hid hr
  clear hr
  have hn := Nat.le_trans hnc hcm
  unfold maxLen at hn hcm
  go_enter Try.func4, Try.ntmps4
  go_wp2_with fail
  refine (awake_any _).mono ?_
  rintro e w1 ⟨rfl, hb⟩
  have HB := Lib.hid hb
  clear hb
  by_cases hl : 3000 < n
  · go_wp2
    go_ret
    exact ⟨rfl, HB.out⟩
  · by_cases hin : i < 0 ∨ 8 * (n : Int) ≤ i
    · have HIN := Lib.hid hin
      clear hin
      obtain ⟨t, ht⟩ : ∃ t, t = Bits.get xs i := ⟨_, rfl⟩
      have HT := Lib.hid ht
      clear ht
      have hs := fun (w : World) => run_str (P := Try.prog) w 22 9 5 Try.underlying22 Try.underlying5 Try.underlying9 (B := 0) (A := none) (n := 0) (c := 0) (xs := []) ⟨rfl, fun i hi => absurd hi (by simp)⟩
      have hq := str_eq (rfl : ([] : List UInt8) = [])
      generalize str [] = s0 at hs hq
      go_wp2_with fail
      refine (set_out A n c i on w1 (by omega) HIN.out).mono ?_
      rintro e w2 ⟨rfl, hw⟩; subst w2
      go_wp2_with fail
      refine (ref_set_out A n c i on w1 (by omega) h1 HIN.out).mono ?_
      rintro e w2 ⟨rfl, hw⟩; subst w2
      go_wp2_with fail
      refine (get_is A n c w.heap.size xs i w1 (by omega) (bytes_keep HR.out HB.out)).mono ?_
      rintro e w2 ⟨rfl, hb⟩
      rw [← HT.out]
      replace HB := Lib.hid (below_on HB.out hb)
      clear hb
      go_wp2_with fail
      refine (ref_get A n c w.heap.size xs i w2 (by omega) h1 (bytes_keep HR.out HB.out)).mono ?_
      rintro e w3 ⟨rfl, hb⟩
      rw [← HT.out]
      replace HB := Lib.hid (below_on HB.out hb)
      clear hb
      have hs3 := hs w3
      clear hs
      go_wp2
      go_ret
      exact ⟨by simp, HB.out⟩
    · obtain ⟨i, rfl⟩ := Int.eq_ofNat_of_zero_le (show 0 ≤ i by omega)
      have hin2 : i < 8 * n := by omega
      clear hin
      obtain ⟨t, ht⟩ : ∃ t, t = Bits.get xs (i : Int) := ⟨_, rfl⟩
      have HT := Lib.hid ht
      obtain ⟨ys, hys⟩ : ∃ ys, ys = Bits.put_at xs i on := ⟨_, rfl⟩
      have hyl : ys.length = n := by rw [hys, Bits.put_at_length]; exact HR.out.1
      have HYL := Lib.hid hyl
      have HYS := Lib.hid hys
      have hq := str_eq (rfl : ys = ys)
      clear ht hys hyl
      go_wp2_with fail
      refine (set_is A n c w.heap.size xs i on w1 (by omega) (bytes_keep HR.out HB.out) HB.out.size hin2).mono ?_
      rintro e w2 ⟨A2, rfl, hr2, hb⟩
      rw [← HYS.out] at hr2
      have HR2 := Lib.hid hr2
      replace HB := Lib.hid (below_on HB.out hb)
      clear hb hr2
      go_wp2_with fail
      refine (ref_set_in A n c w.heap.size xs i on w2 (by omega) (bytes_keep HR.out HB.out) HB.out.size hin2).mono ?_
      rintro e w3 ⟨v3, rfl, ho3, hb⟩
      rw [← HYS.out] at ho3
      obtain ⟨A3, c3, rfl, hr3⟩ := ho3.reads
      rw [HYL.out] at hr3 ⊢
      replace HR2 := Lib.hid (bytes_more (bytes_keep HR2.out hb) hb.size)
      have HR3 := Lib.hid hr3
      replace HB := Lib.hid (below_on HB.out hb)
      clear hb hr3 ho3
      go_wp2_with fail
      refine (get_is A n c w.heap.size xs (i : Int) w3 (by omega) (bytes_keep HR.out HB.out)).mono ?_
      rintro e w4 ⟨rfl, hb⟩
      rw [← HT.out]
      replace HR2 := Lib.hid (bytes_more (bytes_keep HR2.out hb) hb.size)
      replace HR3 := Lib.hid (bytes_more (bytes_keep HR3.out hb) hb.size)
      replace HB := Lib.hid (below_on HB.out hb)
      clear hb
      go_wp2_with fail
      refine (ref_get A n c w.heap.size xs (i : Int) w4 (by omega) h1 (bytes_keep HR.out HB.out)).mono ?_
      rintro e w5 ⟨rfl, hb⟩
      rw [← HT.out]
      have hs1 := run_str (P := Try.prog) w5 22 9 5 Try.underlying22 Try.underlying5 Try.underlying9 (c := n) (bytes_keep HR2.out hb)
      have hs2 := run_str (P := Try.prog) w5 22 9 5 Try.underlying22 Try.underlying5 Try.underlying9 (c := c3) (bytes_keep HR3.out hb)
      replace HB := Lib.hid (below_on HB.out hb)
      clear hb
      go_wp2
      go_ret
      exact ⟨by simp, HB.out⟩

theorem own : ownKnob Try.prog.godebug = none := by kernel_rfl
theorem laid : laidOutB Try.prog = true := by kernel_rfl
theorem one8 : Try.prog.cellsOf 5 = 1 := by kernel_rfl

set_option maxRecDepth 100000 in
theorem lifted (os : Os) (started : os.Started) (H : Type) (enc : TypeId × Value → H) :
    ReturnsInHanded {} Try.checked os 4 .any (Rows.bitsSetsSpec.pre6 enc Try.prog Try.f4 Rows.bitsSetsRow.domain false) (Rows.bitsSetsSpec.post enc Try.prog Try.f4 false true false false) := by
  refine returnsInHanded_of_change (C := Try.checked) own started (by kernel_rfl) Try.func4
    (ChangeSpec.witness6 (enc := enc) (C := Try.checked) false ⟨#[], #[.slice none 0 0, .int .i64 0, .bool false], []⟩ 8 (by kernel_rfl) (by kernel_rfl) (by kernel_rfl) (by kernel_rfl)) ?_
  intro W base args ds gs before hval0 hW _ _
  have hval : ∀ (j : Nat) t v, Try.f4.params[j]? = some t → args[j]? = some v → Value.okWide Try.prog W .any base t v := hval0
  have hW' := hW
  obtain ⟨p, q, hA0, hV, rfl, hfz, hnd⟩ := hW
  have hA : DataW.TrodAll enc Try.prog W 0 (fun _ => true) true Try.f4.params.toList args.toList ds p := hA0
  rw [Try.params4] at hA hval
  obtain ⟨v0, v1, v2, d0, d1, d2, p0, p1, p2, rfl, rfl, rfl, h0, h1, h2⟩ := trodAll_three hA
  obtain ⟨A0, n0, c0, xs0, rfl, hnc0, hcm0, hr0⟩ := open_bytes Try.underlying22 Try.underlying5 one8 (hval 0 22 v0 rfl rfl) h0
  obtain ⟨a1, rfl, rfl, rfl, wf1⟩ := open_int Try.underlying3 (hval 1 3 v1 rfl rfl) h1
  have hb1 : -9223372036854775808 ≤ a1 ∧ a1 ≤ 9223372036854775807 := by simpa [Lit.wf, IntKind.min, IntKind.max, IntKind.signed, IntKind.bits] using wf1
  obtain ⟨b2, rfl, rfl, rfl⟩ := open_bool Try.underlying4 (hval 2 4 v2 rfl rfl) h2
  refine (walk A0 n0 c0 xs0 a1 b2 W hnc0 hcm0 hr0 hb1.1 hb1.2).mono fun e W' ⟨he, hb⟩ => ?_
  subst he
  exact ⟨_, rfl, Law.post laid (by kernel_rfl) (by kernel_rfl) Try.underlying4 rfl hW' rfl hb⟩

theorem proved : Rows.BitsSetsSaid :=
  OpenClaim.holds_of_wide 4 Try.f4 rfl rfl rfl rfl rfl rfl rfl ⟨rfl, rfl, rfl, rfl, rfl⟩ rfl rfl rfl rfl rfl (by kernel_rfl) Try.func4 (by kernel_rfl)
    (of_decide_eq_true (by kernel_rfl)) (by unfold Func.isWrapper; first | (rw [if_pos (by decide +kernel)]; kernel_rfl) | (rw [if_neg (by decide +kernel)]; exact ⟨rfl, rfl⟩))
    (fun os started H enc _ => lifted os started H enc)

end Go.Proofs.Ytknkeghidhfmmaa.bitsSets
