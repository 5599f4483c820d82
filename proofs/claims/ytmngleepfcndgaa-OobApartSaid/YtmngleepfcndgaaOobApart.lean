/-
  OobApart: for all metadata and every slice of bytes the law answers true. No condition.
-/
import Derived.Test.YtmngleepfcndgaaOobKit
namespace Go.Proofs.Ytmngleepfcndgaa.oobApart
open Go.ChangeShapes Go.WideShapes Go.ChangeAt Go.RowKit Go.Proofs.Ytmngleepfcndgaa.OobPkg
set_option maxRecDepth 4000

theorem eq_iff {a b : Bool} (h : a = b) : (a == b) = true := by rw [h]; simp

set_option maxHeartbeats 1000000 in
theorem walk (k1 l1 s1 k2 l2 s2 : Int) (A : Option Addr) (n c : Nat) (d : List UInt8) (w : World) (_hnc : n ≤ c) (_hcm : c ≤ maxLen) (hr : Bytes w w.heap.size A n d) :
    Calls Try.prog 8 #[oob k1 l1 s1, oob k2 l2 s2, .slice A n c] w fun e w' => e = .returned (.bool true) ∧ Below w.heap.size w w' := by
  have HB := Lib.hid (((Below.refl w.heap.size w).alloc (Nat.le_refl _) (.cells #[.int .i64 k1, .int .i64 l1, .int .i64 s1] 23)).alloc (by simp) (.cells #[.int .i64 k2, .int .i64 l2, .int .i64 s2] 23))
  have H1 := Lib.hid ((Tri.new w k1 l1 s1).old (.cells #[.int .i64 k2, .int .i64 l2, .int .i64 s2] 23))
  have H2 := Lib.hid (Tri.newAt (w := w.alloc (.cells #[.int .i64 k1, .int .i64 l1, .int .i64 s1] 23)) (g := w.heap.size + 1) (by simp) k2 l2 s2)
  have HR := Lib.hid hr
  clear hr
  go_enter Try.func8, Try.ntmps8
  go_wp2_with fail
  refine (awake_any _).mono ?_
  rintro e w1 ⟨rfl, hb⟩
  replace HB := Lib.hid (below_on HB.out hb)
  replace H1 := Lib.hid (H1.out.keep hb)
  replace H2 := Lib.hid (H2.out.keep hb)
  clear hb
  generalize w.heap.size + 1 = g2 at H2 ⊢
  generalize hg : w.heap.size = g1 at H1 ⊢
  rw [← hg]
  rw [← hg] at H1
  clear hg g1
  have c10 := H1.out.c0
  have c11 := H1.out.c1
  have c12 := H1.out.c2
  by_cases ho1 : Oob.Ok k1 l1 s1 ∧ n = 16
  · obtain ⟨ok1, rfl⟩ := ho1
    have OK1 := Lib.hid ok1
    clear ok1
    go_wp2_with fail
    refine (Pack_ok k1 l1 s1 A c d w1 OK1.out (bytes_more (bytes_keep HR.out HB.out) HB.out.size)).mono ?_
    rintro e w2 ⟨A2, rfl, hr2, hb⟩
    replace HB := Lib.hid (below_on HB.out hb)
    replace H1 := Lib.hid (H1.out.keep hb)
    replace H2 := Lib.hid (H2.out.keep hb)
    have HR2 := Lib.hid hr2
    clear hb hr2 c10 c11 c12
    have c20 := H2.out.c0
    have c21 := H2.out.c1
    have c22 := H2.out.c2
    by_cases ok2 : Oob.Ok k2 l2 s2
    · have OK2 := Lib.hid ok2
      clear ok2
      go_wp2_with fail
      refine (Pack_ok k2 l2 s2 A c d w2 OK2.out (bytes_more (bytes_keep HR.out HB.out) HB.out.size)).mono ?_
      rintro e w3 ⟨A3, rfl, hr3, hb⟩
      replace HB := Lib.hid (below_on HB.out hb)
      replace H1 := Lib.hid (H1.out.keep hb)
      replace H2 := Lib.hid (H2.out.keep hb)
      replace HR2 := Lib.hid (bytes_keep HR2.out hb)
      have HR3 := Lib.hid hr3
      clear hb hr3 c20 c21 c22
      have c10 := H1.out.c0
      have c11 := H1.out.c1
      have c12 := H1.out.c2
      have c20 := H2.out.c0
      have c21 := H2.out.c1
      have c22 := H2.out.c2
      have hs2 := run_strs (P := Try.prog) w3 24 9 5 Try.underlying24 Try.underlying5 Try.underlying9 (c := 17) HR2.out
      have hs3 := run_strs (P := Try.prog) w3 24 9 5 Try.underlying24 Try.underlying5 Try.underlying9 (c := 17) HR3.out
      rcases Decidable.em (k1 = k2) with rfl | h
      · rcases Decidable.em (l1 = l2) with rfl | h
        · rcases Decidable.em (s1 = s2) with rfl | h
          · generalize Oob.full k1 l1 s1 d = u1 at hs2 hs3
            have hq := str_eq (rfl : u1 = u1)
            go_wp2
            go_quiet (fail)
            go_wp2
            go_ret
            exact ⟨by simp, below_draws HB.out _⟩
          · have hu : Oob.full k1 l1 s1 d ≠ Oob.full k1 l1 s2 d := fun e => h (Oob.full_inj OK1.out OK2.out e).2.2
            generalize Oob.full k1 l1 s1 d = u1 at hs2 hu
            generalize Oob.full k1 l1 s2 d = u2 at hs3 hu
            have hn := str_ne hu
            clear hu
            go_wp2
            go_quiet (fail)
            go_wp2
            go_ret
            exact ⟨by simp, below_draws HB.out _⟩
        · have hu : Oob.full k1 l1 s1 d ≠ Oob.full k1 l2 s2 d := fun e => h (Oob.full_inj OK1.out OK2.out e).2.1
          generalize Oob.full k1 l1 s1 d = u1 at hs2 hu
          generalize Oob.full k1 l2 s2 d = u2 at hs3 hu
          have hn := str_ne hu
          clear hu
          go_wp2
          go_quiet (fail)
          go_wp2
          go_ret
          exact ⟨by simp, below_draws HB.out _⟩
      · have hu : Oob.full k1 l1 s1 d ≠ Oob.full k2 l2 s2 d := fun e => h (Oob.full_inj OK1.out OK2.out e).1
        generalize Oob.full k1 l1 s1 d = u1 at hs2 hu
        generalize Oob.full k2 l2 s2 d = u2 at hs3 hu
        have hn := str_ne hu
        clear hu
        go_wp2
        go_quiet (fail)
        go_wp2
        go_ret
        exact ⟨by simp, below_draws HB.out _⟩
    · go_wp2_with fail
      refine (Pack_bad k2 l2 s2 A 16 c w2 (fun h => ok2 h.1)).mono ?_
      rintro e w3 ⟨rfl, hb⟩
      replace HB := Lib.hid (below_on HB.out hb)
      clear hb c20 c21 c22
      go_wp2
      go_ret
      exact ⟨rfl, HB.out⟩
  · go_wp2_with fail
    refine (Pack_bad k1 l1 s1 A n c w1 ho1).mono ?_
    rintro e w2 ⟨rfl, hb⟩
    replace HB := Lib.hid (below_on HB.out hb)
    replace H2 := Lib.hid (H2.out.keep hb)
    clear hb c10 c11 c12
    have c20 := H2.out.c0
    have c21 := H2.out.c1
    have c22 := H2.out.c2
    have HR2 := Lib.hid (bytes_more (bytes_keep HR.out HB.out) HB.out.size)
    by_cases ho2 : Oob.Ok k2 l2 s2 ∧ n = 16
    · obtain ⟨ok2, rfl⟩ := ho2
      go_wp2_with fail
      refine (Pack_ok k2 l2 s2 A c d w2 ok2 HR2.out).mono ?_
      rintro e w3 ⟨A3, rfl, _, hb⟩
      replace HB := Lib.hid (below_on HB.out hb)
      clear hb c20 c21 c22 ok2
      go_wp2
      go_ret
      exact ⟨rfl, HB.out⟩
    · go_wp2_with fail
      refine (Pack_bad k2 l2 s2 A n c w2 ho2).mono ?_
      rintro e w3 ⟨rfl, hb⟩
      replace HB := Lib.hid (below_on HB.out hb)
      clear hb c20 c21 c22
      go_wp2
      go_ret
      exact ⟨rfl, HB.out⟩

theorem own : ownKnob Try.prog.godebug = none := by kernel_rfl
theorem laid : laidOutB Try.prog = true := by kernel_rfl
theorem one8 : Try.prog.cellsOf 5 = 1 := by kernel_rfl

set_option maxRecDepth 100000 in
theorem lifted (os : Os) (started : os.Started) (H : Type) (enc : TypeId × Value → H) :
    ReturnsInHanded {} Try.checked os 8 .any (Rows.oobApartSpec.pre6 enc Try.prog Try.f8 Rows.oobApartRow.domain false) (Rows.oobApartSpec.post enc Try.prog Try.f8 false true false false) := by
  refine returnsInHanded_of_change (C := Try.checked) own started (by kernel_rfl) Try.func8
    (ChangeSpec.witness6 (enc := enc) (C := Try.checked) false ⟨#[], #[.agg #[.int .i64 0, .int .i64 0, .int .i64 0], .agg #[.int .i64 0, .int .i64 0, .int .i64 0], .slice none 0 0], []⟩ 8 (by kernel_rfl) (by kernel_rfl) (by kernel_rfl) (by kernel_rfl)) ?_
  intro W base args ds gs before hval0 hW _ _
  have hval : ∀ (j : Nat) t v, Try.f8.params[j]? = some t → args[j]? = some v → Value.okWide Try.prog W .any base t v := hval0
  have hW' := hW
  obtain ⟨p, q, hA0, hV, rfl, hfz, hnd⟩ := hW
  have hA : DataW.TrodAll enc Try.prog W 0 (fun _ => true) true Try.f8.params.toList args.toList ds p := hA0
  rw [Try.params8] at hA hval
  obtain ⟨v0, v1, v2, d0, d1, d2, p0, p1, p2, rfl, rfl, rfl, h0, h1, h2⟩ := trodAll_three hA
  obtain ⟨k0, l0, s0, rfl⟩ := open_oob Try.underlying23 rfl (by kernel_rfl) (by kernel_rfl) (hval 0 23 v0 rfl rfl) h0
  obtain ⟨k1, l1, s1, rfl⟩ := open_oob Try.underlying23 rfl (by kernel_rfl) (by kernel_rfl) (hval 1 23 v1 rfl rfl) h1
  obtain ⟨A2, n2, c2, xs2, rfl, hnc2, hcm2, hr2⟩ := open_bytes Try.underlying24 Try.underlying5 one8 (hval 2 24 v2 rfl rfl) h2
  refine (walk k0 l0 s0 k1 l1 s1 A2 n2 c2 xs2 W hnc2 hcm2 hr2).mono fun e W' ⟨he, hb⟩ => ?_
  subst he
  exact ⟨_, rfl, Law.post laid (by kernel_rfl) (by kernel_rfl) Try.underlying4 rfl hW' rfl hb⟩

theorem proved : Rows.OobApartSaid :=
  OpenClaim.holds_of_wide 8 Try.f8 rfl rfl rfl rfl rfl rfl rfl ⟨rfl, rfl, rfl, rfl, rfl⟩ rfl rfl rfl rfl rfl (by kernel_rfl) Try.func8 (by kernel_rfl)
    (of_decide_eq_true (by kernel_rfl)) (by unfold Func.isWrapper; first | (rw [if_pos (by decide +kernel)]; kernel_rfl) | (rw [if_neg (by decide +kernel)]; exact ⟨rfl, rfl⟩))
    (fun os started H enc _ => lifted os started H enc)

end Go.Proofs.Ytmngleepfcndgaa.oobApart
