/-
  BitsMakes: for every slice of bytes and every int the law answers true, and the slice reads afterwards as it read before. No condition.
-/
import Derived.Test.YtknkeghidhfmmaaBitsRef2
import Derived.Deep.RegionHeld
namespace Go.Proofs.Ytknkeghidhfmmaa.bitsMakes
open Go.ChangeShapes Go.WideShapes Go.ChangeAt Go.RowKit Go.Proofs.Ytknkeghidhfmmaa.BitsPkg
set_option maxRecDepth 4000

set_option maxHeartbeats 4000000 in
theorem walk (A : Option Addr) (n c : Nat) (xs : List UInt8) (N : Int) (w : World) (hnc : n ≤ c) (hcm : c ≤ maxLen) (hr : Bytes w w.heap.size A n xs) (_h0 : -9223372036854775808 ≤ N) (_h1 : N ≤ 9223372036854775807) :
    Calls Try.prog 3 #[.slice A n c, .int .i64 N] w fun e w' => e = .returned (.bool true) ∧ Below w.heap.size w w' := by
  have HR := Lib.hid hr
  clear hr
  have hn := Nat.le_trans hnc hcm
  unfold maxLen at hn hcm
  go_enter Try.func3, Try.ntmps3
  go_wp2_with fail
  refine (awake_any _).mono ?_
  rintro e w1 ⟨rfl, hb⟩
  have HB := Lib.hid hb
  clear hb
  by_cases hl : 3000 < n
  · go_wp2
    go_ret
    exact ⟨rfl, HB.out⟩
  · have hn2 : n ≤ 1000000000000 := by omega
    have HX := Lib.hid (make_any N)
    have HY := Lib.hid (ref_make N)
    obtain ⟨L, hL⟩ : ∃ L, L = List.replicate (Bits.size N) (0 : UInt8) := ⟨_, rfl⟩
    rw [← hL] at HX HY
    have hq := str_eq (rfl : L = L)
    clear hL
    obtain ⟨l, hll⟩ : ∃ l, l = L.length := ⟨_, rfl⟩
    have HLL := Lib.hid hll
    clear hll
    replace HB : Hid (Below w.heap.size w w1.drew) := Lib.hid HB.out.drew
    go_wp2
    go_region_held (fun _ => True) (trivial) (first
      | (go_at_call 11; refine (HX.out _).mono ?_; rintro e w4 ⟨v4, rfl, ho4, hb4⟩; obtain ⟨A4, c4, rfl, hr4⟩ := ho4.reads; rw [← HLL.out] at hr4 ⊢; have hs1 := run_str (P := Try.prog) w4 22 9 5 Try.underlying22 Try.underlying5 Try.underlying9 (c := c4) hr4; have HR4 := Lib.hid hr4; have HB4 := Lib.hid (below_on HB.out hb4); clear ho4 hr4 hb4)
      | (go_at_call 12; refine (HY.out _).mono ?_; rintro e w5 ⟨v5, rfl, ho5, hb5⟩; obtain ⟨A5, c5, rfl, hr5⟩ := ho5.reads; rw [← HLL.out] at hr5 ⊢; have hs2 := run_str (P := Try.prog) w5 22 9 5 Try.underlying22 Try.underlying5 Try.underlying9 (c := c5) hr5; have hs3 := run_str (P := Try.prog) w5 22 9 5 Try.underlying22 Try.underlying5 Try.underlying9 (c := c4) (bytes_keep HR4.out hb5); have HB5 := Lib.hid (below_on HB4.out hb5); clear ho5 hr5 hb5)
      | (go_at_call 13; refine (right_any A n c w.heap.size xs N _ hn2 (bytes_keep HR.out HB5.out) HB5.out.size).mono ?_; rintro e w6 ⟨t1, rfl, ht1, hb6⟩; have HB6 := Lib.hid (below_on HB5.out hb6); have HT1 := Lib.hid ht1; clear ht1 hb6)
      | (go_at_call 14; refine (ref_right A n c w.heap.size xs N _ hn2 (bytes_keep HR.out HB6.out) HB6.out.size).mono ?_; rintro e w7 ⟨t2, rfl, ht2, hb7⟩; obtain rfl : t1 = t2 := Bool.eq_iff_iff.2 (HT1.out.trans ht2.symm); have HB7 := Lib.hid (below_on HB6.out hb7); clear ht2 hb7))
    all_goals
      clear hs1 hs2 hs3
      go_wp2
      go_ret
      exact ⟨by simp, HB7.out⟩

theorem own : ownKnob Try.prog.godebug = none := by kernel_rfl
theorem laid : laidOutB Try.prog = true := by kernel_rfl
theorem one8 : Try.prog.cellsOf 5 = 1 := by kernel_rfl

set_option maxRecDepth 100000 in
theorem lifted (os : Os) (started : os.Started) (H : Type) (enc : TypeId × Value → H) :
    ReturnsInHanded {} Try.checked os 3 .any (Rows.bitsMakesSpec.pre6 enc Try.prog Try.f3 Rows.bitsMakesRow.domain false) (Rows.bitsMakesSpec.post enc Try.prog Try.f3 false true false false) := by
  refine returnsInHanded_of_change (C := Try.checked) own started (by kernel_rfl) Try.func3
    (ChangeSpec.witness6 (enc := enc) (C := Try.checked) false ⟨#[], #[.slice none 0 0, .int .i64 0], []⟩ 8 (by kernel_rfl) (by kernel_rfl) (by kernel_rfl) (by kernel_rfl)) ?_
  intro W base args ds gs before hval0 hW _ _
  have hval : ∀ (j : Nat) t v, Try.f3.params[j]? = some t → args[j]? = some v → Value.okWide Try.prog W .any base t v := hval0
  have hW' := hW
  obtain ⟨p, q, hA0, hV, rfl, hfz, hnd⟩ := hW
  have hA : DataW.TrodAll enc Try.prog W 0 (fun _ => true) true Try.f3.params.toList args.toList ds p := hA0
  rw [Try.params3] at hA hval
  obtain ⟨v0, v1, d0, d1, p0, p1, rfl, rfl, rfl, h0, h1⟩ := trodAll_two hA
  obtain ⟨A0, n0, c0, xs0, rfl, hnc0, hcm0, hr0⟩ := open_bytes Try.underlying22 Try.underlying5 one8 (hval 0 22 v0 rfl rfl) h0
  obtain ⟨a1, rfl, rfl, rfl, wf1⟩ := open_int Try.underlying3 (hval 1 3 v1 rfl rfl) h1
  have hb1 : -9223372036854775808 ≤ a1 ∧ a1 ≤ 9223372036854775807 := by simpa [Lit.wf, IntKind.min, IntKind.max, IntKind.signed, IntKind.bits] using wf1
  refine (walk A0 n0 c0 xs0 a1 W hnc0 hcm0 hr0 hb1.1 hb1.2).mono fun e W' ⟨he, hb⟩ => ?_
  subst he
  exact ⟨_, rfl, Law.post laid (by kernel_rfl) (by kernel_rfl) Try.underlying4 rfl hW' rfl hb⟩

theorem proved : Rows.BitsMakesSaid :=
  OpenClaim.holds_of_wide 3 Try.f3 rfl rfl rfl rfl rfl rfl rfl ⟨rfl, rfl, rfl, rfl, rfl⟩ rfl rfl rfl rfl rfl (by kernel_rfl) Try.func3 (by kernel_rfl)
    (of_decide_eq_true (by kernel_rfl)) (by unfold Func.isWrapper; first | (rw [if_pos (by decide +kernel)]; kernel_rfl) | (rw [if_neg (by decide +kernel)]; exact ⟨rfl, rfl⟩))
    (fun os started H enc _ => lifted os started H enc)

end Go.Proofs.Ytknkeghidhfmmaa.bitsMakes
