/-
  BitsLists: for every slice of bytes the law answers true, and the slice reads afterwards as it read before. No condition.
-/
import Derived.Test.YtknkeghidhfmmaaBitsRef2
namespace Go.Proofs.Ytknkeghidhfmmaa.bitsLists
open Go.ChangeShapes Go.WideShapes Go.ChangeAt Go.RowKit Go.Proofs.Ytknkeghidhfmmaa.BitsPkg
set_option maxRecDepth 4000

set_option maxHeartbeats 1000000 in
theorem walk (A : Option Addr) (n c : Nat) (xs : List UInt8) (w : World) (hnc : n ≤ c) (hcm : c ≤ maxLen) (hr : Bytes w w.heap.size A n xs) :
    Calls Try.prog 5 #[.slice A n c] w fun e w' => e = .returned (.bool true) ∧ Below w.heap.size w w' := by
  have HR := Lib.hid hr
  clear hr
  have hn := Nat.le_trans hnc hcm
  unfold maxLen at hn hcm
  go_enter Try.func5, Try.ntmps5
  go_wp2_with fail
  refine (awake_any _).mono ?_
  rintro e w1 ⟨rfl, hb⟩
  have HB := Lib.hid hb
  clear hb
  by_cases hl : 3000 < n
  · go_wp2
    go_ret
    exact ⟨rfl, HB.out⟩
  · obtain ⟨zs, hzs⟩ : ∃ zs, zs = Bits.ons xs (8 * n) := ⟨_, rfl⟩
    have hbd : ∀ z ∈ zs, -9223372036854775808 ≤ z ∧ z ≤ 9223372036854775807 := by
      intro z hz
      rw [hzs] at hz
      have := Bits.ons_bd z hz
      omega
    have hla := Bits.ons_len xs (8 * n)
    rw [← hzs] at hla
    obtain ⟨m, hm⟩ : ∃ m, m = zs.length := ⟨_, rfl⟩
    rw [← hm] at hla
    have HM := Lib.hid hm
    have HBD := Lib.hid hbd
    have HZ := Lib.hid hzs
    clear hm hbd hzs
    go_wp2_with fail
    refine (list_any A n c w.heap.size xs w1 (by omega) (bytes_keep HR.out HB.out) HB.out.size).mono ?_
    rintro e w2 ⟨v2, rfl, ho2, hb⟩
    rw [← HZ.out] at ho2
    replace HB := Lib.hid (below_on HB.out hb)
    obtain ⟨A2, c2, rfl, _, _, hr2⟩ := ho2.reads HBD.out
    rw [← HM.out] at hr2 ⊢
    have HO2 := Lib.hid ho2
    clear hb hr2 ho2
    go_wp2_with fail
    refine (ref_list A n c w.heap.size xs w2 (by omega) (bytes_keep HR.out HB.out) HB.out.size).mono ?_
    rintro e w3 ⟨v3, rfl, ho3, hb⟩
    rw [← HZ.out] at ho3
    obtain ⟨A4, c4, hv4, _, _, hr2⟩ := (HO2.out.below hb).reads HBD.out
    injection hv4 with hv5 hv6 hv7
    subst hv5
    replace HB := Lib.hid (below_on HB.out hb)
    obtain ⟨A3, c3, rfl, _, _, hr3⟩ := ho3.reads HBD.out
    rw [← HM.out] at hr2 hr3 ⊢
    have HR2 := Lib.hid hr2
    have HR3 := Lib.hid hr3
    clear hb hr2 hr3 ho3 HO2 hv6 hv7
    go_wp2_with fail
    refine (same_any A2 A3 m c2 c3 _ _ zs w3 (by omega) HR2.out HR3.out).mono ?_
    rintro e w4 ⟨rfl, hb⟩
    replace HB := Lib.hid (below_on HB.out hb)
    clear hb
    go_wp2_with fail
    refine (count_any A n c w.heap.size xs w4 (by omega) (bytes_keep HR.out HB.out) HB.out.size).mono ?_
    rintro e w5 ⟨rfl, hb⟩
    rw [← HZ.out, ← HM.out]
    replace HB := Lib.hid (below_on HB.out hb)
    clear hb
    go_wp2_with fail
    refine (ref_count A n c w.heap.size xs w5 (by omega) (bytes_keep HR.out HB.out) HB.out.size).mono ?_
    rintro e w6 ⟨rfl, hb⟩
    rw [← HZ.out, ← HM.out]
    replace HB := Lib.hid (below_on HB.out hb)
    clear hb
    go_wp2
    go_ret
    exact ⟨by simp, HB.out⟩

theorem own : ownKnob Try.prog.godebug = none := by kernel_rfl
theorem laid : laidOutB Try.prog = true := by kernel_rfl
theorem one8 : Try.prog.cellsOf 5 = 1 := by kernel_rfl

set_option maxRecDepth 100000 in
theorem lifted (os : Os) (started : os.Started) (H : Type) (enc : TypeId × Value → H) :
    ReturnsInHanded {} Try.checked os 5 .any (Rows.bitsListsSpec.pre6 enc Try.prog Try.f5 Rows.bitsListsRow.domain false) (Rows.bitsListsSpec.post enc Try.prog Try.f5 false true false false) := by
  refine returnsInHanded_of_change (C := Try.checked) own started (by kernel_rfl) Try.func5
    (ChangeSpec.witness6 (enc := enc) (C := Try.checked) false ⟨#[], #[.slice none 0 0], []⟩ 8 (by kernel_rfl) (by kernel_rfl) (by kernel_rfl) (by kernel_rfl)) ?_
  intro W base args ds gs before hval0 hW _ _
  have hval : ∀ (j : Nat) t v, Try.f5.params[j]? = some t → args[j]? = some v → Value.okWide Try.prog W .any base t v := hval0
  have hW' := hW
  obtain ⟨p, q, hA0, hV, rfl, hfz, hnd⟩ := hW
  have hA : DataW.TrodAll enc Try.prog W 0 (fun _ => true) true Try.f5.params.toList args.toList ds p := hA0
  rw [Try.params5] at hA hval
  obtain ⟨v0, d0, rfl, rfl, h0⟩ := trodAll_one hA
  obtain ⟨A0, n0, c0, xs0, rfl, hnc0, hcm0, hr0⟩ := open_bytes Try.underlying22 Try.underlying5 one8 (hval 0 22 v0 rfl rfl) h0
  refine (walk A0 n0 c0 xs0 W hnc0 hcm0 hr0).mono fun e W' ⟨he, hb⟩ => ?_
  subst he
  exact ⟨_, rfl, Law.post laid (by kernel_rfl) (by kernel_rfl) Try.underlying4 rfl hW' rfl hb⟩

theorem proved : Rows.BitsListsSaid :=
  OpenClaim.holds_of_wide 5 Try.f5 rfl rfl rfl rfl rfl rfl rfl ⟨rfl, rfl, rfl, rfl, rfl⟩ rfl rfl rfl rfl rfl (by kernel_rfl) Try.func5 (by kernel_rfl)
    (of_decide_eq_true (by kernel_rfl)) (by unfold Func.isWrapper; first | (rw [if_pos (by decide +kernel)]; kernel_rfl) | (rw [if_neg (by decide +kernel)]; exact ⟨rfl, rfl⟩))
    (fun os started H enc _ => lifted os started H enc)

end Go.Proofs.Ytknkeghidhfmmaa.bitsLists
