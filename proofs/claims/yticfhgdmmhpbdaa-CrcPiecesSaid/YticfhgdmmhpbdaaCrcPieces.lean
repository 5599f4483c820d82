/-
  CrcPieces: for every slice of bytes and every slice of ints the law answers true, and they read afterwards as they read before. No condition.
-/
import Derived.Test.YticfhgdmmhpbdaaCrcKit
import Derived.Test.YticfhgdmmhpbdaaNums
namespace Go.Proofs.Yticfhgdmmhpbdaa.crcPieces
open Go.ChangeShapes Go.WideShapes Go.ChangeAt Go.RowKit

theorem addI_cut (xs : List UInt8) (fr m : Nat) (h : fr ≤ m) : addI (addI 0 (xs.take fr)) ((xs.drop fr).take (m - fr)) = addI 0 (xs.take m) := by
  unfold addI
  rw [bv_un, Crc.add_append, ← List.take_add, show fr + (m - fr) = m by omega]

set_option maxHeartbeats 400000 in
theorem walk (A : Option Addr) (n c : Nat) (xs : List UInt8) (A' : Option Addr) (n' c' : Nat) (zs : List Int) (w : World) (hnc : n ≤ c) (hcm : c ≤ maxLen) (hr : Bytes w w.heap.size A n xs)
    (hnc' : n' ≤ c') (hcm' : c' ≤ maxLen) (hr' : Nums w w.heap.size A' n' zs) :
    Calls Try.prog 8 #[.slice A n c, .slice A' n' c'] w fun e w' => e = .returned (.bool true) ∧ Below w.heap.size w w' := by
  have HR := Lib.hid hr
  have HR' := Lib.hid hr'
  have hn := Nat.le_trans hnc hcm
  have hn' := Nat.le_trans hnc' hcm'
  clear hr hr' hnc' hcm'
  have HN := Lib.hid hn
  unfold maxLen at hn hn' hcm
  go_enter Try.func8, Try.ntmps8
  go_wp2_with fail
  refine (awake_any _).mono ?_
  rintro e w1 ⟨rfl, hb⟩
  have HR1 := Lib.hid (bytes_keep HR.out hb)
  have HR1' := Lib.hid (nums_keep HR'.out hb)
  have HB := Lib.hid hb
  have hsz := hb.size
  clear hb
  by_cases hl : 20000 < n
  · go_wp2
    go_ret
    exact ⟨rfl, HB.out⟩
  · go_wp2
    go_loop [6, 7, 8] (fun t f i => ∃ k fr : Nat, k ≤ n' ∧ k ≤ 100 ∧ fr ≤ n ∧ i = .int .i64 k ∧ f = .int .i64 fr ∧ t = .int .u32 (addI 0 (xs.take fr))) (fun _ _ i => 100 - (intOf i).toNat)
    case atStart => exact ⟨0, 0, by omega, by omega, by omega, rfl, rfl, val_int (by unfold addI; rw [List.take_zero, Crc.add_nil]; rfl)⟩
    case round =>
      obtain ⟨k, fr, hk, hk1, hfr, rfl, rfl, rfl⟩ := hrel
      have HP := Lib.hid (bytes_part HR1.out (k := fr) (m := n - fr) (cap := c) (by omega) hnc)
      by_cases hlt : k < n'
      · by_cases h100 : k < 100
        · obtain ⟨b, off, z, rfl, _, hx, hc, hz1, hz2⟩ := HR1'.out.at_ hlt
          clear hx
          by_cases hy : (fr : Int) ≤ z
          · by_cases hy2 : z ≤ (n : Int)
            · obtain ⟨m, rfl⟩ := Int.eq_ofNat_of_zero_le (show 0 ≤ z by omega)
              have hfm : fr ≤ m := by omega
              have hmn : m ≤ n := by omega
              have HP := Lib.hid (bytes_part HR1.out (k := fr) (m := m - fr) (cap := c) (by omega) hnc)
              rcases Decidable.em (fr = c) with rfl | hcf
              all_goals
                go_wp2_with fail
                refine (add_any _ _ _ _ _ ((xs.drop fr).take (m - fr)) _ (by unfold maxLen; omega) (by have q := HP.out; first | rwa [if_pos trivial] at q | rwa [if_neg (fun e => hcf e.symm)] at q)).mono ?_
                rintro e w2 ⟨rfl, rfl⟩
                rw [addI_cut xs fr m hfm]
                go_wp2
                go_round
                case rel => exact ⟨k + 1, m, by omega, by omega, hmn, by go_num, rfl, rfl⟩
                case measure => simp [intOf]; omega
            · go_wp2
              go_round
              case rel => exact ⟨k + 1, fr, by omega, by omega, hfr, by go_num, rfl, rfl⟩
              case measure => simp [intOf]; omega
          · go_wp2
            go_round
            case rel => exact ⟨k + 1, fr, by omega, by omega, hfr, by go_num, rfl, rfl⟩
            case measure => simp [intOf]; omega
        · rcases Decidable.em (fr = c) with rfl | hcf
          all_goals
            go_wp2_with fail
            refine (add_any _ _ _ _ _ ((xs.drop fr).take (n - fr)) _ (by unfold maxLen; omega) (by have q := HP.out; first | (rw [if_pos trivial] at q; rw [show n - fr = 0 from by omega] at q ⊢; exact q) | rwa [if_neg (fun e => hcf e.symm)] at q)).mono ?_
            rintro e w2 ⟨rfl, rfl⟩
            rw [addI_cut xs fr n hfr]
            go_wp2_with fail
            refine (sum_any _ _ _ _ xs _ HN.out HR1.out).mono ?_
            rintro e w3 ⟨rfl, rfl⟩
            rw [show xs.take n = xs from List.take_of_length_le (by rw [HR1.out.1]; exact Nat.le_refl _)]
            go_wp2
            go_ret
            exact ⟨by simp, HB.out⟩
      · rcases Decidable.em (fr = c) with rfl | hcf
        all_goals
          go_wp2_with fail
          refine (add_any _ _ _ _ _ ((xs.drop fr).take (n - fr)) _ (by unfold maxLen; omega) (by have q := HP.out; first | (rw [if_pos trivial] at q; rw [show n - fr = 0 from by omega] at q ⊢; exact q) | rwa [if_neg (fun e => hcf e.symm)] at q)).mono ?_
          rintro e w2 ⟨rfl, rfl⟩
          rw [addI_cut xs fr n hfr]
          go_wp2_with fail
          refine (sum_any _ _ _ _ xs _ HN.out HR1.out).mono ?_
          rintro e w3 ⟨rfl, rfl⟩
          rw [show xs.take n = xs from List.take_of_length_le (by rw [HR1.out.1]; exact Nat.le_refl _)]
          go_wp2
          go_ret
          exact ⟨by simp, HB.out⟩

theorem own : ownKnob Try.prog.godebug = none := by kernel_rfl
theorem laid : laidOutB Try.prog = true := by kernel_rfl
theorem one8 : Try.prog.cellsOf 5 = 1 := by kernel_rfl
theorem one64 : Try.prog.cellsOf 3 = 1 := by kernel_rfl

set_option maxRecDepth 100000 in
theorem lifted (os : Os) (started : os.Started) (H : Type) (enc : TypeId × Value → H) :
    ReturnsInHanded {} Try.checked os 8 .any (Rows.crcPiecesSpec.pre6 enc Try.prog Try.f8 Rows.crcPiecesRow.domain false) (Rows.crcPiecesSpec.post enc Try.prog Try.f8 false true false false) := by
  refine returnsInHanded_of_change (C := Try.checked) own started (by kernel_rfl) Try.func8
    (ChangeSpec.witness6 (enc := enc) (C := Try.checked) false ⟨#[], #[.slice none 0 0, .slice none 0 0], []⟩ 8 (by kernel_rfl) (by kernel_rfl) (by kernel_rfl) (by kernel_rfl)) ?_
  intro W base args ds gs before hval0 hW _ _
  have hval : ∀ (j : Nat) t v, Try.f8.params[j]? = some t → args[j]? = some v → Value.okWide Try.prog W .any base t v := hval0
  have hW' := hW
  obtain ⟨p, q, hA0, hV, rfl, hfz, hnd⟩ := hW
  have hA : DataW.TrodAll enc Try.prog W 0 (fun _ => true) true Try.f8.params.toList args.toList ds p := hA0
  rw [Try.params8] at hA hval
  obtain ⟨v0, v1, d0, d1, p0, p1, rfl, rfl, rfl, h0, h1⟩ := trodAll_two hA
  obtain ⟨A0, n0, c0, xs0, rfl, hnc0, hcm0, hr0⟩ := open_bytes Try.underlying22 Try.underlying5 one8 (hval 0 22 v0 rfl rfl) h0
  obtain ⟨A1, n1, c1, zs1, rfl, hnc1, hcm1, hr1⟩ := open_nums Try.underlying32 Try.underlying3 one64 (hval 1 32 v1 rfl rfl) h1
  refine (walk A0 n0 c0 xs0 A1 n1 c1 zs1 W hnc0 hcm0 hr0 hnc1 hcm1 hr1).mono fun e W' ⟨he, hb⟩ => ?_
  subst he
  exact ⟨_, rfl, Law.post laid (by kernel_rfl) (by kernel_rfl) Try.underlying4 rfl hW' rfl hb⟩

theorem proved : Rows.CrcPiecesSaid :=
  OpenClaim.holds_of_wide 8 Try.f8 rfl rfl rfl rfl rfl rfl rfl ⟨rfl, rfl, rfl, rfl, rfl⟩ rfl rfl rfl rfl rfl (by kernel_rfl) Try.func8 (by kernel_rfl)
    (of_decide_eq_true (by kernel_rfl)) (by unfold Func.isWrapper; first | (rw [if_pos (by decide +kernel)]; kernel_rfl) | (rw [if_neg (by decide +kernel)]; exact ⟨rfl, rfl⟩))
    (fun os started H enc _ => lifted os started H enc)

end Go.Proofs.Yticfhgdmmhpbdaa.crcPieces
