/-
  OobLong: for all metadata and all slices of bytes the law answers true. No condition.
-/
import Derived.Test.YtmngleepfcndgaaOobKit2
import Derived.Deep.DeepCutAuto
namespace Go.Proofs.Ytmngleepfcndgaa.oobLong
open Go.ChangeShapes Go.WideShapes Go.ChangeAt Go.RowKit Go.Proofs.Ytmngleepfcndgaa.OobPkg
set_option maxRecDepth 4000

set_option maxHeartbeats 2000000 in
theorem walk (k l s : Int) (A : Option Addr) (n c : Nat) (d : List UInt8) (A2 : Option Addr) (m c2 : Nat) (ms : List UInt8) (w : World) (_hnc : n ≤ c) (_hcm : c ≤ maxLen) (hr : Bytes w w.heap.size A n d) (_hnc2 : m ≤ c2) (_hcm2 : c2 ≤ maxLen) (hr2 : Bytes w w.heap.size A2 m ms) :
    Calls Try.prog 9 #[oob k l s, .slice A n c, .slice A2 m c2] w fun e w' => e = .returned (.bool true) ∧ Below w.heap.size w w' := by
  have HB := Lib.hid ((Below.refl w.heap.size w).alloc (Nat.le_refl _) (.cells #[.int .i64 k, .int .i64 l, .int .i64 s] 23))
  have H1 := Lib.hid (Tri.new w k l s)
  have HR := Lib.hid hr
  have HRM := Lib.hid hr2
  clear hr hr2
  go_enter Try.func9, Try.ntmps9
  go_wp2_with fail
  refine (awake_any _).mono ?_
  rintro e w1 ⟨rfl, hb⟩
  replace HB := Lib.hid (below_on HB.out hb)
  replace H1 := Lib.hid (H1.out.keep hb)
  clear hb
  have c10 := H1.out.c0
  have c11 := H1.out.c1
  have c12 := H1.out.c2
  by_cases hm1 : 1000 < m
  · go_wp2
    go_ret
    exact ⟨rfl, HB.out⟩
  by_cases ho1 : Oob.Ok k l s ∧ n = 16
  · obtain ⟨ok1, rfl⟩ := ho1
    have OK1 := Lib.hid ok1
    clear ok1
    go_wp2_with fail
    refine (Pack_ok k l s A c d w1 OK1.out (bytes_more (bytes_keep HR.out HB.out) HB.out.size)).mono ?_
    rintro e w2 ⟨A3, rfl, hr3, hb⟩
    replace HB := Lib.hid (below_on HB.out hb)
    replace H1 := Lib.hid (H1.out.keep hb)
    obtain ⟨u, hu⟩ : ∃ u, u = Oob.full k l s d := ⟨_, rfl⟩
    rw [← hu] at hr3
    have HR3 := Lib.hid hr3
    have Hu := Lib.hid hu
    clear hb hr3 hu c10 c11 c12
    by_cases hm0 : m = 0
    · have HMS := Lib.hid (show ms = [] from List.eq_nil_of_length_eq_zero (HRM.out.1.trans hm0))
      have hmz : ((m : Int) == 0) = true := by simp [hm0]
      clear hm0
      have HL1 := Lib.hid (show ([] : List UInt8).length + 17 ≤ 140737488355328 by show 0 + _ ≤ _; omega)
      have HBa := Lib.hid ((Below.refl w2.heap.size w2).alloc (Nat.le_refl _) (.cells #[] 5))
      go_wp2_with (at_builtin; refine wpList_append_bytes _ rfl _ _ _ rfl w2.heap.size 5 Try.underlying24 info8 _ [] rfl (own_new w2 5 [] _ rfl (Nat.zero_le _)) w2.heap.size A3 17 17 u rfl (bytes_keep HR3.out HBa.out) HL1.out HBa.out.size ?_)
      intro va wa hoa hga _
      have HBb := Lib.hid (HBa.out.grown hga HBa.out.size (fun k hk => by simp [Value.ownBlock] at hk; omega))
      have HOa := Lib.hid hoa
      have HL2 := Lib.hid (show (([] : List UInt8) ++ u).length + m ≤ 140737488355328 by have := (HR3.out).1; simp; omega)
      clear hoa hga HBa HL1
      go_wp2_with (at_builtin; refine wpList_append_bytes _ rfl _ _ _ rfl w2.heap.size 5 Try.underlying24 info8 va (([] : List UInt8) ++ u) rfl HOa.out w2.heap.size A2 m c2 ms rfl (bytes_keep (bytes_more (bytes_keep HRM.out HB.out) HB.out.size) HBb.out) HL2.out HBb.out.size ?_)
      intro vb wb hob hgb _
      have HBd := Lib.hid (HBb.out.grown hgb HBb.out.size HOa.out.block)
      obtain ⟨y1, hy1⟩ : ∃ y, y = u ++ ms := ⟨_, rfl⟩
      replace hob : Own wb w2.heap.size 5 vb y1 := by rw [hy1]; exact hob
      obtain ⟨A4, c4, rfl, hrb⟩ := hob.reads
      obtain ⟨N1, hN1⟩ : ∃ N, N = y1.length := ⟨_, rfl⟩
      rw [← hN1] at hrb ⊢
      have Hy1 := Lib.hid hy1
      have HN1 := Lib.hid hN1
      have HRb := Lib.hid hrb
      clear hob hgb HBb HOa HL2 hrb hy1 hN1
      replace HB := Lib.hid (HB.out.trans (HBd.out.mono HB.out.size))
      replace H1 := Lib.hid (H1.out.keep HBd.out)
      replace HR3 := Lib.hid (bytes_more (bytes_keep HR3.out HBd.out) HBd.out.size)
      clear HBd
      have HY := Lib.hid (show y1 = u by rw [Hy1.out, HMS.out]; simp)
      have hN : N1 = 17 := by rw [HN1.out, HY.out, Hu.out]; exact Oob.full_len ..
      subst hN
      replace Hy1 := HY
      go_wp2_with fail
      refine (Unpack_full A4 A c4 c k l s d wb OK1.out (by rw [← Hu.out, ← Hy1.out]; exact HRb.out) (bytes_more (bytes_keep HR.out HB.out) HB.out.size)).mono ?_
      rintro e w5 ⟨rfl, hb⟩
      replace HB := Lib.hid (below_on HB.out hb)
      replace H1 := Lib.hid (H1.out.keep hb)
      replace HR3 := Lib.hid (bytes_more (bytes_keep HR3.out hb) hb.size)
      have HP := Lib.hid (Tri.new w5 k l s)
      replace H1 := Lib.hid (H1.out.old (.cells #[.int .i64 k, .int .i64 l, .int .i64 s] 23))
      replace HR3 := Lib.hid (bytes_more (bytes_keep HR3.out ((Below.refl w5.heap.size w5).alloc (Nat.le_refl _) (.cells #[.int .i64 k, .int .i64 l, .int .i64 s] 23))) (show w5.heap.size ≤ (w5.alloc (.cells #[.int .i64 k, .int .i64 l, .int .i64 s] 23)).heap.size by simp))
      replace HB := Lib.hid (HB.out.alloc HB.out.size (.cells #[.int .i64 k, .int .i64 l, .int .i64 s] 23))
      clear hb HRb
      go_upto_region 8 with fail
      refine at_world ?_
      intro w6 hw6
      rw [← hw6] at HP H1 HR3 HB
      clear hw6
      generalize w5.heap.size = g5 at HP ⊢
      have HL1 := Lib.hid (show ([] : List UInt8).length + 16 ≤ 140737488355328 by show 0 + _ ≤ _; omega)
      have HBa := Lib.hid ((Below.refl w6.heap.size w6).alloc (Nat.le_refl _) (.cells #[] 5))
      go_wp2_with (at_builtin; refine wpList_append_bytes _ rfl _ _ _ rfl w6.heap.size 5 Try.underlying24 info8 _ [] rfl (own_new w6 5 [] _ rfl (Nat.zero_le _)) w6.heap.size A 16 c d rfl (bytes_keep (bytes_more (bytes_keep HR.out HB.out) HB.out.size) HBa.out) HL1.out HBa.out.size ?_)
      intro va wa hoa hga _
      have HBb := Lib.hid (HBa.out.grown hga HBa.out.size (fun k hk => by simp [Value.ownBlock] at hk; omega))
      have HOa := Lib.hid hoa
      have HL2 := Lib.hid (show (([] : List UInt8) ++ d).length + m ≤ 140737488355328 by have := ((bytes_more (bytes_keep HR.out HB.out) HB.out.size)).1; simp; omega)
      clear hoa hga HBa HL1
      go_wp2_with (at_builtin; refine wpList_append_bytes _ rfl _ _ _ rfl w6.heap.size 5 Try.underlying24 info8 va (([] : List UInt8) ++ d) rfl HOa.out w6.heap.size A2 m c2 ms rfl (bytes_keep (bytes_more (bytes_keep HRM.out HB.out) HB.out.size) HBb.out) HL2.out HBb.out.size ?_)
      intro vb wb hob hgb _
      have HBd := Lib.hid (HBb.out.grown hgb HBb.out.size HOa.out.block)
      obtain ⟨y2, hy2⟩ : ∃ y, y = d ++ ms := ⟨_, rfl⟩
      replace hob : Own wb w6.heap.size 5 vb y2 := by rw [hy2]; exact hob
      obtain ⟨A5, c5, rfl, hrb⟩ := hob.reads
      obtain ⟨N2, hN2⟩ : ∃ N, N = y2.length := ⟨_, rfl⟩
      rw [← hN2] at hrb ⊢
      have Hy2 := Lib.hid hy2
      have HN2 := Lib.hid hN2
      have HRb := Lib.hid hrb
      clear hob hgb HBb HOa HL2 hrb hy2 hN2
      replace HB := Lib.hid (HB.out.trans (HBd.out.mono HB.out.size))
      replace H1 := Lib.hid (H1.out.keep HBd.out)
      replace HP := Lib.hid (HP.out.keep HBd.out)
      replace HR3 := Lib.hid (bytes_more (bytes_keep HR3.out HBd.out) HBd.out.size)
      clear HBd
      have HY2 := Lib.hid (show y2 = d by rw [Hy2.out, HMS.out]; simp)
      have hN : N2 = 16 := by rw [HN2.out, HY2.out]; exact HR.out.1
      subst hN
      replace Hy2 := HY2
      go_wp2_with fail
      refine (Unpack_full A3 A5 17 c5 k l s d wb OK1.out (by rw [← Hu.out]; exact HR3.out) (by have h := HRb.out; rw [Hy2.out] at h; exact h)).mono ?_
      rintro e w7 ⟨rfl, hb⟩
      replace HB := Lib.hid (below_on HB.out hb)
      replace H1 := Lib.hid ((H1.out.keep hb).old (.cells #[.int .i64 k, .int .i64 l, .int .i64 s] 23))
      replace HP := Lib.hid ((HP.out.keep hb).old (.cells #[.int .i64 k, .int .i64 l, .int .i64 s] 23))
      have HQ := Lib.hid (Tri.new w7 k l s)
      replace HB := Lib.hid (HB.out.alloc HB.out.size (.cells #[.int .i64 k, .int .i64 l, .int .i64 s] 23))
      clear hb HRb
      go_upto_region 9 with fail
      refine at_world ?_
      intro w8 hw8
      rw [← hw8] at HP H1 HB HQ
      clear hw8
      generalize w7.heap.size = g7 at HQ ⊢
      have c10 := H1.out.c0
      have c11 := H1.out.c1
      have c12 := H1.out.c2
      have p0 := HP.out.c0
      have p1 := HP.out.c1
      have p2 := HP.out.c2
      have q0 := HQ.out.c0
      have q1 := HQ.out.c1
      have q2 := HQ.out.c2
      go_wp2
      go_ret
      exact ⟨rfl, HB.out⟩
    · have hmz : ((m : Int) == 0) = false := by simp; omega
      have hmp : 0 < m := by omega
      clear hm0
      have HL1 := Lib.hid (show ([] : List UInt8).length + 17 ≤ 140737488355328 by show 0 + _ ≤ _; omega)
      have HBa := Lib.hid ((Below.refl w2.heap.size w2).alloc (Nat.le_refl _) (.cells #[] 5))
      go_wp2_with (at_builtin; refine wpList_append_bytes _ rfl _ _ _ rfl w2.heap.size 5 Try.underlying24 info8 _ [] rfl (own_new w2 5 [] _ rfl (Nat.zero_le _)) w2.heap.size A3 17 17 u rfl (bytes_keep HR3.out HBa.out) HL1.out HBa.out.size ?_)
      intro va wa hoa hga _
      have HBb := Lib.hid (HBa.out.grown hga HBa.out.size (fun k hk => by simp [Value.ownBlock] at hk; omega))
      have HOa := Lib.hid hoa
      have HL2 := Lib.hid (show (([] : List UInt8) ++ u).length + m ≤ 140737488355328 by have := (HR3.out).1; simp; omega)
      clear hoa hga HBa HL1
      go_wp2_with (at_builtin; refine wpList_append_bytes _ rfl _ _ _ rfl w2.heap.size 5 Try.underlying24 info8 va (([] : List UInt8) ++ u) rfl HOa.out w2.heap.size A2 m c2 ms rfl (bytes_keep (bytes_more (bytes_keep HRM.out HB.out) HB.out.size) HBb.out) HL2.out HBb.out.size ?_)
      intro vb wb hob hgb _
      have HBd := Lib.hid (HBb.out.grown hgb HBb.out.size HOa.out.block)
      obtain ⟨y1, hy1⟩ : ∃ y, y = u ++ ms := ⟨_, rfl⟩
      replace hob : Own wb w2.heap.size 5 vb y1 := by rw [hy1]; exact hob
      obtain ⟨A4, c4, rfl, hrb⟩ := hob.reads
      obtain ⟨N1, hN1⟩ : ∃ N, N = y1.length := ⟨_, rfl⟩
      rw [← hN1] at hrb ⊢
      have Hy1 := Lib.hid hy1
      have HN1 := Lib.hid hN1
      have HRb := Lib.hid hrb
      clear hob hgb HBb HOa HL2 hrb hy1 hN1
      replace HB := Lib.hid (HB.out.trans (HBd.out.mono HB.out.size))
      replace H1 := Lib.hid (H1.out.keep HBd.out)
      replace HR3 := Lib.hid (bytes_more (bytes_keep HR3.out HBd.out) HBd.out.size)
      clear HBd
      have HNE := Lib.hid (show y1.length ≠ 17 by
        rw [Hy1.out, List.length_append]
        have h1 := HR3.out.1
        have h2 := HRM.out.1
        omega)
      go_wp2_with fail
      refine (Unpack_err HRb.out (bytes_more (bytes_keep HR.out HB.out) HB.out.size) (unp_long (.inl HNE.out))).mono ?_
      rintro e w5 ⟨rfl, hb⟩
      replace HB := Lib.hid (below_on HB.out hb)
      replace H1 := Lib.hid (H1.out.keep hb)
      replace HR3 := Lib.hid (bytes_more (bytes_keep HR3.out hb) hb.size)
      have HP := Lib.hid (Tri.new w5 0 0 0)
      replace H1 := Lib.hid (H1.out.old (.cells #[.int .i64 0, .int .i64 0, .int .i64 0] 23))
      replace HR3 := Lib.hid (bytes_more (bytes_keep HR3.out ((Below.refl w5.heap.size w5).alloc (Nat.le_refl _) (.cells #[.int .i64 0, .int .i64 0, .int .i64 0] 23))) (show w5.heap.size ≤ (w5.alloc (.cells #[.int .i64 0, .int .i64 0, .int .i64 0] 23)).heap.size by simp))
      replace HB := Lib.hid (HB.out.alloc HB.out.size (.cells #[.int .i64 0, .int .i64 0, .int .i64 0] 23))
      clear hb HRb
      go_upto_region 8 with fail
      refine at_world ?_
      intro w6 hw6
      rw [← hw6] at HP H1 HR3 HB
      clear hw6
      generalize w5.heap.size = g5 at HP ⊢
      have HL1 := Lib.hid (show ([] : List UInt8).length + 16 ≤ 140737488355328 by show 0 + _ ≤ _; omega)
      have HBa := Lib.hid ((Below.refl w6.heap.size w6).alloc (Nat.le_refl _) (.cells #[] 5))
      go_wp2_with (at_builtin; refine wpList_append_bytes _ rfl _ _ _ rfl w6.heap.size 5 Try.underlying24 info8 _ [] rfl (own_new w6 5 [] _ rfl (Nat.zero_le _)) w6.heap.size A 16 c d rfl (bytes_keep (bytes_more (bytes_keep HR.out HB.out) HB.out.size) HBa.out) HL1.out HBa.out.size ?_)
      intro va wa hoa hga _
      have HBb := Lib.hid (HBa.out.grown hga HBa.out.size (fun k hk => by simp [Value.ownBlock] at hk; omega))
      have HOa := Lib.hid hoa
      have HL2 := Lib.hid (show (([] : List UInt8) ++ d).length + m ≤ 140737488355328 by have := ((bytes_more (bytes_keep HR.out HB.out) HB.out.size)).1; simp; omega)
      clear hoa hga HBa HL1
      go_wp2_with (at_builtin; refine wpList_append_bytes _ rfl _ _ _ rfl w6.heap.size 5 Try.underlying24 info8 va (([] : List UInt8) ++ d) rfl HOa.out w6.heap.size A2 m c2 ms rfl (bytes_keep (bytes_more (bytes_keep HRM.out HB.out) HB.out.size) HBb.out) HL2.out HBb.out.size ?_)
      intro vb wb hob hgb _
      have HBd := Lib.hid (HBb.out.grown hgb HBb.out.size HOa.out.block)
      obtain ⟨y2, hy2⟩ : ∃ y, y = d ++ ms := ⟨_, rfl⟩
      replace hob : Own wb w6.heap.size 5 vb y2 := by rw [hy2]; exact hob
      obtain ⟨A5, c5, rfl, hrb⟩ := hob.reads
      obtain ⟨N2, hN2⟩ : ∃ N, N = y2.length := ⟨_, rfl⟩
      rw [← hN2] at hrb ⊢
      have Hy2 := Lib.hid hy2
      have HN2 := Lib.hid hN2
      have HRb := Lib.hid hrb
      clear hob hgb HBb HOa HL2 hrb hy2 hN2
      replace HB := Lib.hid (HB.out.trans (HBd.out.mono HB.out.size))
      replace H1 := Lib.hid (H1.out.keep HBd.out)
      replace HP := Lib.hid (HP.out.keep HBd.out)
      replace HR3 := Lib.hid (bytes_more (bytes_keep HR3.out HBd.out) HBd.out.size)
      clear HBd
      have HNE2 := Lib.hid (show y2.length ≠ 16 by
        rw [Hy2.out, List.length_append]
        have h1 := HR.out.1
        have h2 := HRM.out.1
        omega)
      go_wp2_with fail
      refine (Unpack_err HR3.out HRb.out (unp_long (.inr HNE2.out))).mono ?_
      rintro e w7 ⟨rfl, hb⟩
      replace HB := Lib.hid (below_on HB.out hb)
      replace H1 := Lib.hid ((H1.out.keep hb).old (.cells #[.int .i64 0, .int .i64 0, .int .i64 0] 23))
      replace HP := Lib.hid ((HP.out.keep hb).old (.cells #[.int .i64 0, .int .i64 0, .int .i64 0] 23))
      have HQ := Lib.hid (Tri.new w7 0 0 0)
      replace HB := Lib.hid (HB.out.alloc HB.out.size (.cells #[.int .i64 0, .int .i64 0, .int .i64 0] 23))
      clear hb HRb
      go_upto_region 9 with fail
      refine at_world ?_
      intro w8 hw8
      rw [← hw8] at HP H1 HB HQ
      clear hw8
      generalize w7.heap.size = g7 at HQ ⊢
      have c10 := H1.out.c0
      have c11 := H1.out.c1
      have c12 := H1.out.c2
      have p0 := HP.out.c0
      have p1 := HP.out.c1
      have p2 := HP.out.c2
      have q0 := HQ.out.c0
      have q1 := HQ.out.c1
      have q2 := HQ.out.c2
      go_wp2
      go_ret
      exact ⟨rfl, HB.out⟩
  · go_wp2_with fail
    refine (Pack_bad k l s A n c w1 ho1).mono ?_
    rintro e w3 ⟨rfl, hb⟩
    replace HB := Lib.hid (below_on HB.out hb)
    clear hb c10 c11 c12 ho1
    go_wp2
    go_ret
    exact ⟨rfl, HB.out⟩

theorem own : ownKnob Try.prog.godebug = none := by kernel_rfl
theorem laid : laidOutB Try.prog = true := by kernel_rfl
theorem one8 : Try.prog.cellsOf 5 = 1 := by kernel_rfl

set_option maxRecDepth 100000 in
theorem lifted (os : Os) (started : os.Started) (H : Type) (enc : TypeId × Value → H) :
    ReturnsInHanded {} Try.checked os 9 .any (Rows.oobLongSpec.pre6 enc Try.prog Try.f9 Rows.oobLongRow.domain false) (Rows.oobLongSpec.post enc Try.prog Try.f9 false true false false) := by
  refine returnsInHanded_of_change (C := Try.checked) own started (by kernel_rfl) Try.func9
    (ChangeSpec.witness6 (enc := enc) (C := Try.checked) false ⟨#[], #[.agg #[.int .i64 0, .int .i64 0, .int .i64 0], .slice none 0 0, .slice none 0 0], []⟩ 8 (by kernel_rfl) (by kernel_rfl) (by kernel_rfl) (by kernel_rfl)) ?_
  intro W base args ds gs before hval0 hW _ _
  have hval : ∀ (j : Nat) t v, Try.f9.params[j]? = some t → args[j]? = some v → Value.okWide Try.prog W .any base t v := hval0
  have hW' := hW
  obtain ⟨p, q, hA0, hV, rfl, hfz, hnd⟩ := hW
  have hA : DataW.TrodAll enc Try.prog W 0 (fun _ => true) true Try.f9.params.toList args.toList ds p := hA0
  rw [Try.params9] at hA hval
  obtain ⟨v0, v1, v2, d0, d1, d2, p0, p1, p2, rfl, rfl, rfl, h0, h1, h2⟩ := trodAll_three hA
  obtain ⟨k0, l0, s0, rfl⟩ := open_oob Try.underlying23 rfl (by kernel_rfl) (by kernel_rfl) (hval 0 23 v0 rfl rfl) h0
  obtain ⟨A1, n1, c1, xs1, rfl, hnc1, hcm1, hr1⟩ := open_bytes Try.underlying24 Try.underlying5 one8 (hval 1 24 v1 rfl rfl) h1
  obtain ⟨A2, n2, c2, xs2, rfl, hnc2, hcm2, hr2⟩ := open_bytes Try.underlying24 Try.underlying5 one8 (hval 2 24 v2 rfl rfl) h2
  refine (walk k0 l0 s0 A1 n1 c1 xs1 A2 n2 c2 xs2 W hnc1 hcm1 hr1 hnc2 hcm2 hr2).mono fun e W' ⟨he, hb⟩ => ?_
  subst he
  exact ⟨_, rfl, Law.post laid (by kernel_rfl) (by kernel_rfl) Try.underlying4 rfl hW' rfl hb⟩

theorem proved : Rows.OobLongSaid :=
  OpenClaim.holds_of_wide 9 Try.f9 rfl rfl rfl rfl rfl rfl rfl ⟨rfl, rfl, rfl, rfl, rfl⟩ rfl rfl rfl rfl rfl (by kernel_rfl) Try.func9 (by kernel_rfl)
    (of_decide_eq_true (by kernel_rfl)) (by unfold Func.isWrapper; first | (rw [if_pos (by decide +kernel)]; kernel_rfl) | (rw [if_neg (by decide +kernel)]; exact ⟨rfl, rfl⟩))
    (fun os started H enc _ => lifted os started H enc)

end Go.Proofs.Ytmngleepfcndgaa.oobLong
