/-
  WireBack: for every int, every slice of bytes and every number of 32 bits the law answers true, and the slice reads afterwards as it read before. No condition.
-/
import Derived.Test.YtjlmcjjejmkahaaWireKit
namespace Go.Proofs.Ytjlmcjjejmkahaa.wireBack
open Go.ChangeShapes Go.WideShapes Go.ChangeAt Go.RowKit
set_option maxRecDepth 4000

theorem tt_text (n : Nat) (xs rest : List UInt8) (hl : xs.length = n) (hn : n < 9223372036854775808) : tt ((Wire.code n ++ xs) ++ rest) = (xs, (((Wire.code n).length + n : Nat) : Int), 0) := by
  have h := Wire.takes_code n hn (xs ++ rest)
  rw [← List.append_assoc] at h
  unfold tt
  rw [h]
  simp only
  rw [if_neg (by simp only [List.length_append]; omega), List.append_assoc, List.drop_left, ← hl, List.take_left]

theorem tf_fixed (v : Nat) (xs : List UInt8) (hv : v < 4294967296) : tf (Wire.fx v ++ xs) = ((v : Int), 0) := by
  unfold tf
  rw [if_neg (by rw [List.length_append, fx_len]; omega), Wire.fk_fx v hv]

set_option maxHeartbeats 2000000 in
theorem walk (m : Int) (A : Option Addr) (n c : Nat) (xs : List UInt8) (v : Int) (w : World) (h0 : -9223372036854775808 ≤ m) (h1 : m ≤ 9223372036854775807) (hnc : n ≤ c) (hcm : c ≤ maxLen) (hr : Bytes w w.heap.size A n xs) (hv0 : 0 ≤ v) (hv1 : v ≤ 4294967295) :
    Calls Try.prog 7 #[.int .i64 m, .slice A n c, .int .u32 v] w fun e w' => e = .returned (.bool true) ∧ Below w.heap.size w w' := by
  have HR := Lib.hid hr
  have HL := Lib.hid hr.1
  clear hr
  have hn := Nat.le_trans hnc hcm
  unfold maxLen at hn hcm
  go_enter Try.func7, Try.ntmps7
  go_wp2_with fail
  refine (awake_any _).mono ?_
  rintro e w1 ⟨rfl, hb⟩
  have HR1 := Lib.hid (bytes_more (bytes_keep HR.out hb) hb.size)
  have HB := Lib.hid hb
  have hsz := hb.size
  clear hb
  by_cases hm : m < 0
  · go_wp2
    go_ret
    exact ⟨rfl, HB.out⟩
  · by_cases hl : 20000 < n
    · go_wp2
      go_ret
      exact ⟨rfl, HB.out⟩
    · obtain ⟨m, rfl⟩ := Int.eq_ofNat_of_zero_le (show 0 ≤ m by omega)
      obtain ⟨v, rfl⟩ := Int.eq_ofNat_of_zero_le hv0
      have hc9 := Wire.code_len9 m (by omega)
      have hd9 := Wire.code_len9 n (by omega)
      -- b := append(wire.Number(n), s...)
      go_wp2_with fail
      refine (number_one w1 (m : Int) _ rfl _ _ (by omega) h1).mono ?_
      rintro e w2 ⟨v2, rfl, ho2, hb2⟩
      rw [Int.toNat_natCast] at ho2
      have HO2 := Lib.hid ho2
      have HB2 := Lib.hid hb2
      have hsz2 := hb2.size
      clear ho2 hb2
      go_wp2_with (at_builtin; refine wpList_append_bytes _ rfl _ _ _ rfl w1.heap.size 5 Try.underlying24 info8 _ (Wire.code m) rfl HO2.out w1.heap.size A n c xs rfl (bytes_keep HR1.out HB2.out) (by omega) hsz2 ?_)
      intro v3 w3 ho3 hg3 _
      have HB3 := Lib.hid (HB2.out.grown hg3 hsz2 HO2.out.block)
      have hsz3 := HB3.out.size
      have hlen1 : (Wire.code m ++ xs).length = (Wire.code m).length + n := by rw [List.length_append, HL.out]
      have HT1 := Lib.hid (tn_some (Wire.takes_code m (by omega) xs))
      obtain ⟨A3, c3, rfl, hc3, hm3, hr3⟩ := ho3.readsc
      have HR3 := Lib.hid hr3
      have HM3 := Lib.hid hm3
      clear ho3 hg3 hr3 HO2 HB2 hm3
      generalize Wire.code m ++ xs = L1 at hlen1 HT1 HR3 hc3 ⊢
      generalize (Wire.code m).length = k1 at hc9 hlen1 HT1
      generalize L1.length = l1 at hlen1 HR3 hc3 ⊢
      have HLN1 := Lib.hid hlen1
      have hb1 : l1 ≤ 20009 := by omega
      have e1 : ((k1 : Int) != (l1 : Int) - (n : Int)) = false := by simp; omega
      clear hlen1
      go_wp2_with fail
      refine (takeNumber_any _ _ _ _ L1 _ (Nat.le_trans hc3 HM3.out) HR3.out).mono ?_
      rintro e w4 ⟨rfl, rfl⟩
      rw [HT1.out]
      -- c := append(wire.Text(s), b...)
      go_wp2_with fail
      refine (text_any A n c w1.heap.size xs w3 (by omega) (bytes_keep HR1.out HB3.out) hsz3).mono ?_
      rintro e w4 ⟨v4, rfl, ho4, hb4⟩
      have HO4 := Lib.hid ho4
      have HB4 := Lib.hid hb4
      have hsz4 := hb4.size
      have hlen4 : (Wire.code n ++ xs).length = (Wire.code n).length + n := by rw [List.length_append, HL.out]
      have HT2 := Lib.hid (tt_text n xs L1 HL.out (by omega))
      clear ho4 hb4
      generalize Wire.code n ++ xs = L2 at hlen4 HT2 HO4
      generalize (Wire.code n).length = k2 at hd9 hlen4 HT2
      have hb2 : L2.length + l1 ≤ 140737488355328 := by omega
      have HLN4 := Lib.hid hlen4
      clear hlen4
      go_wp2_with (at_builtin; refine wpList_append_bytes _ rfl _ _ _ rfl w3.heap.size 5 Try.underlying24 info8 _ L2 rfl HO4.out w3.heap.size A3 l1 c3 L1 rfl (bytes_keep HR3.out HB4.out) hb2 hsz4 ?_)
      intro v5 w5 ho5 hg5 _
      have HB5 := Lib.hid (HB4.out.grown hg5 hsz4 HO4.out.block)
      have hsz5 := HB5.out.size
      have hlen5 : (L2 ++ L1).length = k2 + n + l1 := by rw [List.length_append, HLN4.out, HR3.out.1]
      obtain ⟨A5, c5, rfl, hc5, hm5, hr5⟩ := ho5.readsc
      have HR5 := Lib.hid hr5
      have HM5 := Lib.hid hm5
      clear ho5 hg5 hr5 HO4 HB4 hm5 hb2
      generalize L2 ++ L1 = L3 at hlen5 HT2 HR5 hc5 ⊢
      generalize L3.length = l3 at hlen5 HR5 hc5 ⊢
      have hb3 : l3 ≤ 100000000000 := by omega
      have e2 : ((k2 : Int) + (n : Int) != (l3 : Int) - (l1 : Int)) = false := by simp; omega
      clear hlen5
      go_wp2_with fail
      refine (takeText_any _ _ _ _ L3 _ hb3 hc5 HM5.out HR5.out).mono ?_
      rintro e w6 ⟨v6, rfl, ho6, hb6⟩
      rw [HT2.out] at ho6 ⊢
      have HB6 := Lib.hid hb6
      have hsz6 := hb6.size
      have HB6' := Lib.hid (HB3.out.trans ((HB5.out.mono hsz3).trans (hb6.mono (Nat.le_trans hsz3 hsz5))))
      obtain ⟨A6, c6, rfl, hr6⟩ := ho6.reads
      have hs1 := run_str (P := Try.prog) w6 24 9 5 Try.underlying24 Try.underlying5 Try.underlying9 (c := c6) hr6
      have hs2 := run_str (P := Try.prog) w6 24 9 5 Try.underlying24 Try.underlying5 Try.underlying9 (c := c) (bytes_keep HR1.out HB6'.out)
      have hsz6' := HB6'.out.size
      clear ho6 hb6 hr6
      generalize (xs, ((k2 + n : Nat) : Int), (0 : Int)).1.length = l6 at hs1 ⊢
      go_wp2_with fail
      clear hs1 hs2 e1 e2
      refine (fixed_any (v : Int) w6 (by omega) (by omega)).mono ?_
      rintro e w7 ⟨v7, rfl, ho7, hb7⟩
      rw [Int.toNat_natCast] at ho7
      have HO7 := Lib.hid ho7
      have HB7 := Lib.hid (HB6'.out.trans (hb7.mono hsz6'))
      have hsz7 := HB7.out.size
      have hb8 : (Wire.fx v).length + n ≤ 140737488355328 := by rw [fx_len]; omega
      have hsz8 : w6.heap.size ≤ w7.heap.size := hb7.size
      have HT3 := Lib.hid (tf_fixed v xs (by omega))
      clear ho7 hb7
      generalize hF : Wire.fx v = F at HO7 hb8 HT3
      clear hF
      go_wp2_with (at_builtin; refine wpList_append_bytes _ rfl _ _ _ rfl w6.heap.size 5 Try.underlying24 info8 _ F rfl HO7.out w1.heap.size A n c xs rfl (bytes_keep HR1.out HB7.out) hb8 hsz8 ?_)
      intro v8 w8 ho8 hg8 _
      have HB8 := Lib.hid (HB7.out.grown hg8 hsz7 (fun k hk => Nat.le_trans hsz6' (HO7.out.block k hk)))
      obtain ⟨A8, c8, rfl, hc8, hm8, hr8⟩ := ho8.readsc
      have HR8 := Lib.hid hr8
      have HM8 := Lib.hid hm8
      clear ho8 hg8 hr8 hm8
      generalize F ++ xs = L4 at HT3 HR8 hc8 ⊢
      generalize L4.length = l4 at HR8 hc8 ⊢
      go_wp2_with fail
      refine (takeFixed_any _ _ _ _ L4 _ hc8 HM8.out HR8.out).mono ?_
      rintro e w9 ⟨rfl, rfl⟩
      rw [HT3.out]
      go_wp2
      go_ret
      exact ⟨by simp, HB.out.trans (HB8.out.mono hsz)⟩

theorem own : ownKnob Try.prog.godebug = none := by kernel_rfl
theorem laid : laidOutB Try.prog = true := by kernel_rfl
theorem one8 : Try.prog.cellsOf 5 = 1 := by kernel_rfl

set_option maxRecDepth 100000 in
theorem lifted (os : Os) (started : os.Started) (H : Type) (enc : TypeId × Value → H) :
    ReturnsInHanded {} Try.checked os 7 .any (Rows.wireBackSpec.pre6 enc Try.prog Try.f7 Rows.wireBackRow.domain false) (Rows.wireBackSpec.post enc Try.prog Try.f7 false true false false) := by
  refine returnsInHanded_of_change (C := Try.checked) own started (by kernel_rfl) Try.func7
    (ChangeSpec.witness6 (enc := enc) (C := Try.checked) false ⟨#[], #[.int .i64 0, .slice none 0 0, .int .u32 0], []⟩ 8 (by kernel_rfl) (by kernel_rfl) (by kernel_rfl) (by kernel_rfl)) ?_
  intro W base args ds gs before hval0 hW _ _
  have hval : ∀ (j : Nat) t v, Try.f7.params[j]? = some t → args[j]? = some v → Value.okWide Try.prog W .any base t v := hval0
  have hW' := hW
  obtain ⟨p, q, hA0, hV, rfl, hfz, hnd⟩ := hW
  have hA : DataW.TrodAll enc Try.prog W 0 (fun _ => true) true Try.f7.params.toList args.toList ds p := hA0
  rw [Try.params7] at hA hval
  obtain ⟨v0, v1, v2, d0, d1, d2, p0, p1, p2, rfl, rfl, rfl, h0, h1, h2⟩ := trodAll_three hA
  obtain ⟨a0, rfl, rfl, rfl, wf0⟩ := open_int Try.underlying3 (hval 0 3 v0 rfl rfl) h0
  have hb0 : -9223372036854775808 ≤ a0 ∧ a0 ≤ 9223372036854775807 := by simpa [Lit.wf, IntKind.min, IntKind.max, IntKind.signed, IntKind.bits] using wf0
  obtain ⟨A1, n1, c1, xs1, rfl, hnc1, hcm1, hr1⟩ := open_bytes Try.underlying24 Try.underlying5 one8 (hval 1 24 v1 rfl rfl) h1
  obtain ⟨a2, rfl, rfl, rfl, wf2⟩ := open_int Try.underlying32 (hval 2 32 v2 rfl rfl) h2
  have hb2 : 0 ≤ a2 ∧ a2 ≤ 4294967295 := by simpa [Lit.wf, IntKind.min, IntKind.max, IntKind.signed, IntKind.bits] using wf2
  refine (walk a0 A1 n1 c1 xs1 a2 W hb0.1 hb0.2 hnc1 hcm1 hr1 hb2.1 hb2.2).mono fun e W' ⟨he, hb⟩ => ?_
  subst he
  exact ⟨_, rfl, Law.post laid (by kernel_rfl) (by kernel_rfl) Try.underlying4 rfl hW' rfl hb⟩

theorem proved : Rows.WireBackSaid :=
  OpenClaim.holds_of_wide 7 Try.f7 rfl rfl rfl rfl rfl rfl rfl ⟨rfl, rfl, rfl, rfl, rfl⟩ rfl rfl rfl rfl rfl (by kernel_rfl) Try.func7 (by kernel_rfl)
    (of_decide_eq_true (by kernel_rfl)) (by unfold Func.isWrapper; first | (rw [if_pos (by decide +kernel)]; kernel_rfl) | (rw [if_neg (by decide +kernel)]; exact ⟨rfl, rfl⟩))
    (fun os started H enc _ => lifted os started H enc)

end Go.Proofs.Ytjlmcjjejmkahaa.wireBack
