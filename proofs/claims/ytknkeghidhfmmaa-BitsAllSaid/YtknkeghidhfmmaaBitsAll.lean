/-
  BitsAll: for every slice of bytes the law answers true, and the slice reads afterwards as it read before. No condition.
-/
import Derived.Test.YtknkeghidhfmmaaBitsSame
namespace Go.Proofs.Ytknkeghidhfmmaa.bitsAll
open Go.ChangeShapes Go.WideShapes Go.ChangeAt Go.RowKit Go.Proofs.Ytknkeghidhfmmaa.BitsPkg
set_option maxRecDepth 4000

theorem ons_ok {xs : List UInt8} {m : Nat} (h : m ≤ 1000000000) : ∀ z ∈ Bits.ons xs m, -9223372036854775808 ≤ z ∧ z ≤ 9223372036854775807 := by
  intro z hz
  have := Bits.ons_bd z hz
  omega

set_option maxHeartbeats 2000000 in
theorem walk (A : Option Addr) (n c : Nat) (xs : List UInt8) (w : World) (hnc : n ≤ c) (hcm : c ≤ maxLen) (hr : Bytes w w.heap.size A n xs) :
    Calls Try.prog 8 #[.slice A n c] w fun e w' => e = .returned (.bool true) ∧ Below w.heap.size w w' := by
  have HR := Lib.hid hr
  have HL := Lib.hid hr.1
  clear hr
  have hn := Nat.le_trans hnc hcm
  unfold maxLen at hn hcm
  go_enter Try.func8, Try.ntmps8
  go_wp2_with fail
  refine (awake_any _).mono ?_
  rintro e w1 ⟨rfl, hb⟩
  have HB := Lib.hid hb
  clear hb
  by_cases hl : 500 < n
  · go_wp2
    go_ret
    exact ⟨rfl, HB.out⟩
  · go_wp2
    go_loopw [4, 5] (fun v i wr => ∃ a : Nat, a ≤ 8 * n ∧ i = .int .i64 a ∧ OwnI wr w.heap.size 3 v (Bits.ons xs a) ∧ Below w.heap.size w wr) (fun _ i _ => 8 * n - (intOf i).toNat)
    case atStart => exact ⟨0, by omega, rfl, ownI_nil _ _ _, HB.out⟩
    case round =>
      obtain ⟨a, ha, rfl, ho, hb⟩ := hrel
      obtain ⟨zs, hzs⟩ : ∃ zs, zs = Bits.ons xs a := ⟨_, rfl⟩
      have hla := Bits.ons_len xs a
      have hbd := ons_ok (xs := xs) (m := a) (by omega)
      rw [← hzs] at ho hla hbd
      obtain ⟨A2, c2, rfl, _, _, _⟩ := ho.reads hbd
      have HO := Lib.hid ho
      have HB := Lib.hid hb
      have HZ := Lib.hid hzs
      have HBD := Lib.hid hbd
      clear ho hb hzs hbd
      obtain ⟨m, hm⟩ : ∃ m, m = zs.length := ⟨_, rfl⟩
      rw [← hm] at HO hla ⊢
      have HM := Lib.hid hm
      clear hm
      have hla2 : (m : Int) ≤ 8 * (n : Int) := by omega
      go_wp2_with fail
      refine (next_any A n c w.heap.size xs (8 * (n : Int)) (a : Int) true wr (by omega) (bytes_keep HR.out HB.out) HB.out.size (by omega)).mono ?_
      rintro e w2 ⟨r, rfl, hF, hb⟩
      rw [show max (a : Int) 0 = (a : Int) by omega] at hF
      replace HO := Lib.hid (HO.out.below hb)
      replace HB := Lib.hid (below_on HB.out hb)
      clear hb
      rcases hF with ⟨rfl, hF⟩ | ⟨h0, h1, h2, h3, hF⟩
      · have HE := Lib.hid (show Bits.ons xs (8 * n) = zs by
          rw [HZ.out]
          refine Bits.ons_same ha fun i hi1 hi2 => ?_
          have this : (Bits.get xs (i : Int) == true) = false := hF (i : Int) (by omega) (by omega)
          rw [Bits.get_nat] at this
          simpa using this)
        clear hF
        go_wp2_with fail
        refine (list_any A n c w.heap.size xs w2 (by omega) (bytes_keep HR.out HB.out) HB.out.size).mono ?_
        rintro e w3 ⟨v3, rfl, ho3, hb⟩
        rw [HE.out] at ho3
        obtain ⟨A3, c3, rfl, _, _, hr3⟩ := ho3.reads HBD.out
        replace HO := Lib.hid (HO.out.below hb)
        replace HB := Lib.hid (below_on HB.out hb)
        obtain ⟨A4, c4, hv4, _, _, hr4⟩ := HO.out.reads HBD.out
        injection hv4 with hv5 hv6 hv7
        subst hv5
        rw [← HM.out] at hr3 hr4 ⊢
        have HR3 := Lib.hid hr3
        have HR4 := Lib.hid hr4
        clear hr3 hr4 ho3 hb hv6 hv7
        go_wp2_with fail
        refine (same_any A2 A3 m c2 c3 _ _ zs w3 (by omega) HR4.out HR3.out).mono ?_
        rintro e w4 ⟨rfl, hb⟩
        replace HB := Lib.hid (below_on HB.out hb)
        clear hb
        go_wp2_with fail
        refine (count_any A n c w.heap.size xs w4 (by omega) (bytes_keep HR.out HB.out) HB.out.size).mono ?_
        rintro e w5 ⟨rfl, hb⟩
        rw [HE.out, ← HM.out]
        replace HB := Lib.hid (below_on HB.out hb)
        clear hb
        go_wp2
        go_ret
        exact ⟨by simp, HB.out⟩
      · obtain ⟨r, rfl⟩ := Int.eq_ofNat_of_zero_le h0
        replace h3 : (Bits.get xs (r : Int) == true) = true := h3
        have HE := Lib.hid (show Bits.ons xs (r + 1) = zs ++ [(r : Int)] by
          rw [HZ.out, Bits.ons_on (by rw [Bits.get_nat] at h3; simpa using h3), Bits.ons_same (a := a) (m := r) (by omega)]
          intro i hi1 hi2
          have this : (Bits.get xs (i : Int) == true) = false := hF (i : Int) (by omega) (by omega)
          rw [Bits.get_nat] at this
          simpa using this)
        have hml : zs.length ≤ 1000000000000 := by have := HM.out; omega
        clear hF h3
        go_wp2_with (at_builtin; refine wpList_append_int w2 rfl _ _ _ rfl w.heap.size 3 Try.underlying30 infoI (.slice A2 m c2) zs rfl HO.out (r : Int) rfl hml HB.out.size ?_)
        intro v3 w3 ho3 hg3
        have HB3 := Lib.hid ((HB.out.alloc HB.out.size _).grown hg3 (by have := HB.out.size; simp; omega) HO.out.block)
        have HO3 := Lib.hid ho3
        clear ho3 hg3
        go_wp2
        go_roundw
        case rel => exact ⟨r + 1, by omega, by go_num, by rw [HE.out]; exact HO3.out, HB3.out⟩
        case measure => simp [intOf]; omega

theorem own : ownKnob Try.prog.godebug = none := by kernel_rfl
theorem laid : laidOutB Try.prog = true := by kernel_rfl
theorem one8 : Try.prog.cellsOf 5 = 1 := by kernel_rfl

set_option maxRecDepth 100000 in
theorem lifted (os : Os) (started : os.Started) (H : Type) (enc : TypeId × Value → H) :
    ReturnsInHanded {} Try.checked os 8 .any (Rows.bitsAllSpec.pre6 enc Try.prog Try.f8 Rows.bitsAllRow.domain false) (Rows.bitsAllSpec.post enc Try.prog Try.f8 false true false false) := by
  refine returnsInHanded_of_change (C := Try.checked) own started (by kernel_rfl) Try.func8
    (ChangeSpec.witness6 (enc := enc) (C := Try.checked) false ⟨#[], #[.slice none 0 0], []⟩ 8 (by kernel_rfl) (by kernel_rfl) (by kernel_rfl) (by kernel_rfl)) ?_
  intro W base args ds gs before hval0 hW _ _
  have hval : ∀ (j : Nat) t v, Try.f8.params[j]? = some t → args[j]? = some v → Value.okWide Try.prog W .any base t v := hval0
  have hW' := hW
  obtain ⟨p, q, hA0, hV, rfl, hfz, hnd⟩ := hW
  have hA : DataW.TrodAll enc Try.prog W 0 (fun _ => true) true Try.f8.params.toList args.toList ds p := hA0
  rw [Try.params8] at hA hval
  obtain ⟨v0, d0, rfl, rfl, h0⟩ := trodAll_one hA
  obtain ⟨A0, n0, c0, xs0, rfl, hnc0, hcm0, hr0⟩ := open_bytes Try.underlying22 Try.underlying5 one8 (hval 0 22 v0 rfl rfl) h0
  refine (walk A0 n0 c0 xs0 W hnc0 hcm0 hr0).mono fun e W' ⟨he, hb⟩ => ?_
  subst he
  exact ⟨_, rfl, Law.post laid (by kernel_rfl) (by kernel_rfl) Try.underlying4 rfl hW' rfl hb⟩

theorem proved : Rows.BitsAllSaid :=
  OpenClaim.holds_of_wide 8 Try.f8 rfl rfl rfl rfl rfl rfl rfl ⟨rfl, rfl, rfl, rfl, rfl⟩ rfl rfl rfl rfl rfl (by kernel_rfl) Try.func8 (by kernel_rfl)
    (of_decide_eq_true (by kernel_rfl)) (by unfold Func.isWrapper; first | (rw [if_pos (by decide +kernel)]; kernel_rfl) | (rw [if_neg (by decide +kernel)]; exact ⟨rfl, rfl⟩))
    (fun os started H enc _ => lifted os started H enc)

end Go.Proofs.Ytknkeghidhfmmaa.bitsAll
