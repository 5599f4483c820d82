/-
  CrcParts: for any two slices of bytes the law answers true, and they read afterwards as they read before. No condition.
-/
import Derived.Test.YticfhgdmmhpbdaaCrcKit
namespace Go.Proofs.Yticfhgdmmhpbdaa.crcParts
open Go.ChangeShapes Go.WideShapes Go.ChangeAt Go.RowKit

theorem info8 : byteInfo Try.prog 5 := info_parts (by kernel_rfl)

theorem addI_parts (xs ys : List UInt8) : addI (addI 0 xs) ys = addI 0 (xs ++ ys) := by
  unfold addI
  rw [bv_un, Crc.add_append]

set_option maxHeartbeats 400000 in
theorem walk (A : Option Addr) (n c : Nat) (xs : List UInt8) (A' : Option Addr) (n' c' : Nat) (ys : List UInt8) (w : World) (hnc : n ≤ c) (hcm : c ≤ maxLen) (hr : Bytes w w.heap.size A n xs)
    (hnc' : n' ≤ c') (hcm' : c' ≤ maxLen) (hr' : Bytes w w.heap.size A' n' ys) :
    Calls Try.prog 5 #[.slice A n c, .slice A' n' c'] w fun e w' => e = .returned (.bool true) ∧ Below w.heap.size w w' := by
  have HR := Lib.hid hr
  have HR' := Lib.hid hr'
  have hn := Nat.le_trans hnc hcm
  have hn' := Nat.le_trans hnc' hcm'
  clear hr hr' hnc hcm hnc' hcm'
  have HN := Lib.hid hn
  have HN' := Lib.hid hn'
  unfold maxLen at hn hn'
  go_enter Try.func5, Try.ntmps5
  go_wp2_with fail
  refine (awake_any _).mono ?_
  rintro e w1 ⟨rfl, hb⟩
  have HR1 := Lib.hid (bytes_keep HR.out hb)
  have HR1' := Lib.hid (bytes_keep HR'.out hb)
  have HB := Lib.hid hb
  have hsz := hb.size
  clear hb
  by_cases hl : 20000 < n
  · go_wp2
    go_ret
    exact ⟨rfl, HB.out⟩
  · by_cases hl' : 20000 < n'
    · go_wp2
      go_ret
      exact ⟨rfl, HB.out⟩
    · have hb0 : Below w1.heap.size w1 (w1.alloc (.cells #[] 5)) := (Below.refl _ _).alloc (Nat.le_refl _) _
      go_wp2_with (at_builtin; refine wpList_append_bytes _ rfl _ _ _ rfl w1.heap.size 5 Try.underlying22 info8 _ [] rfl (own_new w1 5 [] #[] rfl (Nat.zero_le _)) w1.heap.size A n c xs rfl (bytes_more (bytes_keep (bytes_more HR1.out hsz) hb0) (Nat.le_refl _)) (by simp; omega) (by simp) ?_)
      intro v1 w2 ho1 hg1 _
      have hb2 : Below w1.heap.size w1 w2 := hb0.grown hg1 (by simp) (fun k hk => by simp [Value.ownBlock] at hk; omega)
      have HO1 := Lib.hid ho1
      have HB2 := Lib.hid hb2
      have hsz2 := hb2.size
      clear ho1 hg1 hb2 hb0
      go_wp2_with (at_builtin; refine wpList_append_bytes _ rfl _ _ _ rfl w1.heap.size 5 Try.underlying22 info8 _ xs rfl HO1.out w1.heap.size A' n' c' ys rfl (bytes_keep (bytes_more HR1'.out hsz) HB2.out) (by have := HR1.out.1; omega) hsz2 ?_)
      intro v2 w3 ho2 hg2 _
      have hb3 : Below w1.heap.size w1 w3 := HB2.out.grown hg2 hsz2 HO1.out.block
      have hl3 := ho2.len_le
      obtain ⟨A3, c3, rfl, hr3⟩ := ho2.reads
      clear ho2 hg2
      generalize (xs ++ ys).length = n3 at hr3 hl3 ⊢
      have HR3 := Lib.hid hr3
      have HB3 := Lib.hid hb3
      have HL3 := Lib.hid hl3
      clear hr3 hb3 hl3
      go_wp2_with fail
      refine (sum_any _ _ _ _ xs _ HN.out (bytes_keep (bytes_more HR1.out hsz) HB3.out)).mono ?_
      rintro e w4 ⟨rfl, rfl⟩
      go_wp2_with fail
      refine (add_any _ _ _ _ _ ys _ HN'.out (bytes_keep (bytes_more HR1'.out hsz) HB3.out)).mono ?_
      rintro e w5 ⟨rfl, rfl⟩
      go_wp2_with fail
      refine (sum_any _ _ _ _ (xs ++ ys) _ HL3.out HR3.out).mono ?_
      rintro e w6 ⟨rfl, rfl⟩
      rw [addI_parts]
      go_wp2
      go_ret
      exact ⟨by simp, HB.out.trans (HB3.out.mono hsz)⟩

theorem own : ownKnob Try.prog.godebug = none := by kernel_rfl
theorem laid : laidOutB Try.prog = true := by kernel_rfl
theorem one8 : Try.prog.cellsOf 5 = 1 := by kernel_rfl

set_option maxRecDepth 100000 in
theorem lifted (os : Os) (started : os.Started) (H : Type) (enc : TypeId × Value → H) :
    ReturnsInHanded {} Try.checked os 5 .any (Rows.crcPartsSpec.pre6 enc Try.prog Try.f5 Rows.crcPartsRow.domain false) (Rows.crcPartsSpec.post enc Try.prog Try.f5 false true false false) := by
  refine returnsInHanded_of_change (C := Try.checked) own started (by kernel_rfl) Try.func5
    (ChangeSpec.witness6 (enc := enc) (C := Try.checked) false ⟨#[], #[.slice none 0 0, .slice none 0 0], []⟩ 8 (by kernel_rfl) (by kernel_rfl) (by kernel_rfl) (by kernel_rfl)) ?_
  intro W base args ds gs before hval0 hW _ _
  have hval : ∀ (j : Nat) t v, Try.f5.params[j]? = some t → args[j]? = some v → Value.okWide Try.prog W .any base t v := hval0
  have hW' := hW
  obtain ⟨p, q, hA0, hV, rfl, hfz, hnd⟩ := hW
  have hA : DataW.TrodAll enc Try.prog W 0 (fun _ => true) true Try.f5.params.toList args.toList ds p := hA0
  rw [Try.params5] at hA hval
  obtain ⟨v0, v1, d0, d1, p0, p1, rfl, rfl, rfl, h0, h1⟩ := trodAll_two hA
  obtain ⟨A0, n0, c0, xs0, rfl, hnc0, hcm0, hr0⟩ := open_bytes Try.underlying22 Try.underlying5 one8 (hval 0 22 v0 rfl rfl) h0
  obtain ⟨A1, n1, c1, xs1, rfl, hnc1, hcm1, hr1⟩ := open_bytes Try.underlying22 Try.underlying5 one8 (hval 1 22 v1 rfl rfl) h1
  refine (walk A0 n0 c0 xs0 A1 n1 c1 xs1 W hnc0 hcm0 hr0 hnc1 hcm1 hr1).mono fun e W' ⟨he, hb⟩ => ?_
  subst he
  exact ⟨_, rfl, Law.post laid (by kernel_rfl) (by kernel_rfl) Try.underlying4 rfl hW' rfl hb⟩

theorem proved : Rows.CrcPartsSaid :=
  OpenClaim.holds_of_wide 5 Try.f5 rfl rfl rfl rfl rfl rfl rfl ⟨rfl, rfl, rfl, rfl, rfl⟩ rfl rfl rfl rfl rfl (by kernel_rfl) Try.func5 (by kernel_rfl)
    (of_decide_eq_true (by kernel_rfl)) (by unfold Func.isWrapper; first | (rw [if_pos (by decide +kernel)]; kernel_rfl) | (rw [if_neg (by decide +kernel)]; exact ⟨rfl, rfl⟩))
    (fun os started H enc _ => lifted os started H enc)

end Go.Proofs.Yticfhgdmmhpbdaa.crcParts
