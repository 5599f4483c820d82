/-
  MarkApart: for any two marks the law answers true. No condition.
-/
import Derived.Test.YtbdompmhgjkgbaaMarkKit
namespace Go.Proofs.Ytbdompmhgjkgbaa.markApart
open Go.ChangeShapes Go.WideShapes Go.ChangeAt Go.RowKit Go.Proofs.Ytbdompmhgjkgbaa.OobPkg Go.Proofs.Ytbdompmhgjkgbaa.MarkPkg
set_option maxRecDepth 4000

set_option maxHeartbeats 1000000 in
theorem walk (l1 r1 s1 l2 r2 s2 : Int) (w : World) :
    Calls Try.prog 6 #[tri l1 r1 s1, tri l2 r2 s2] w fun e w' => e = .returned (.bool true) ∧ Below w.heap.size w w' := by
  have HB := Lib.hid (((Below.refl w.heap.size w).alloc (Nat.le_refl _) (.cells #[.int .i64 l1, .int .i64 r1, .int .i64 s1] 23)).alloc (by simp) (.cells #[.int .i64 l2, .int .i64 r2, .int .i64 s2] 23))
  have H1 := Lib.hid ((Three.new 23 w l1 r1 s1).old (.cells #[.int .i64 l2, .int .i64 r2, .int .i64 s2] 23))
  have H2 := Lib.hid (Three.newAt (t := 23) (w := w.alloc (.cells #[.int .i64 l1, .int .i64 r1, .int .i64 s1] 23)) (g := w.heap.size + 1) (by simp) l2 r2 s2)
  go_enter Try.func6, Try.ntmps6
  go_wp2_with fail
  refine (awake_any _).mono ?_
  rintro e w1 ⟨rfl, hb⟩
  replace HB := Lib.hid (below_on HB.out hb)
  replace H1 := Lib.hid (H1.out.keep hb)
  replace H2 := Lib.hid (H2.out.keep hb)
  clear hb
  generalize w.heap.size + 1 = g2 at H2 ⊢
  have c10 := H1.out.c0
  have c11 := H1.out.c1
  have c12 := H1.out.c2
  by_cases ok1 : Mark.Ok l1 r1 s1
  · have OK1 := Lib.hid ok1
    clear ok1
    go_wp2_with fail
    refine (Sector_ok OK1.out w1).mono ?_
    rintro e w2 ⟨A2, rfl, hr2, hb⟩
    replace HB := Lib.hid (below_on HB.out hb)
    replace H1 := Lib.hid (H1.out.keep hb)
    replace H2 := Lib.hid (H2.out.keep hb)
    have HR2 := Lib.hid hr2
    clear hb hr2 c10 c11 c12
    have c20 := H2.out.c0
    have c21 := H2.out.c1
    have c22 := H2.out.c2
    by_cases ok2 : Mark.Ok l2 r2 s2
    · have OK2 := Lib.hid ok2
      clear ok2
      go_wp2_with fail
      refine (Sector_ok OK2.out w2).mono ?_
      rintro e w3 ⟨A3, rfl, hr3, hb⟩
      replace HB := Lib.hid (below_on HB.out hb)
      replace H1 := Lib.hid (H1.out.keep hb)
      replace H2 := Lib.hid (H2.out.keep hb)
      replace HR2 := Lib.hid (bytes_keep HR2.out hb)
      have HR3 := Lib.hid hr3
      clear hb hr3 c20 c21 c22
      have c10 := H1.out.c0
      have c11 := H1.out.c1
      have c12 := H1.out.c2
      have c20 := H2.out.c0
      have c21 := H2.out.c1
      have c22 := H2.out.c2
      have hs2 := run_strs (P := Try.prog) w3 25 9 5 Try.underlying25 Try.underlying5 Try.underlying9 (c := 16) HR2.out
      have hs3 := run_strs (P := Try.prog) w3 25 9 5 Try.underlying25 Try.underlying5 Try.underlying9 (c := 16) HR3.out
      rcases Decidable.em (l1 = l2) with rfl | h
      · rcases Decidable.em (r1 = r2) with rfl | h
        · rcases Decidable.em (s1 = s2) with rfl | h
          · generalize Mark.code l1 r1 s1 = u1 at hs2 hs3
            have hq := str_eq (rfl : u1 = u1)
            go_wp2
            go_quiet (fail)
            go_wp2
            go_ret
            exact ⟨by simp, below_draws HB.out _⟩
          · have hu : Mark.code l1 r1 s1 ≠ Mark.code l1 r1 s2 := fun e => h (Mark.code_inj OK1.out OK2.out e).2.2
            generalize Mark.code l1 r1 s1 = u1 at hs2 hu
            generalize Mark.code l1 r1 s2 = u2 at hs3 hu
            have hn := str_ne hu
            clear hu
            go_wp2
            go_quiet (fail)
            go_wp2
            go_ret
            exact ⟨by simp, below_draws HB.out _⟩
        · have hu : Mark.code l1 r1 s1 ≠ Mark.code l1 r2 s2 := fun e => h (Mark.code_inj OK1.out OK2.out e).2.1
          generalize Mark.code l1 r1 s1 = u1 at hs2 hu
          generalize Mark.code l1 r2 s2 = u2 at hs3 hu
          have hn := str_ne hu
          clear hu
          go_wp2
          go_quiet (fail)
          go_wp2
          go_ret
          exact ⟨by simp, below_draws HB.out _⟩
      · have hu : Mark.code l1 r1 s1 ≠ Mark.code l2 r2 s2 := fun e => h (Mark.code_inj OK1.out OK2.out e).1
        generalize Mark.code l1 r1 s1 = u1 at hs2 hu
        generalize Mark.code l2 r2 s2 = u2 at hs3 hu
        have hn := str_ne hu
        clear hu
        go_wp2
        go_quiet (fail)
        go_wp2
        go_ret
        exact ⟨by simp, below_draws HB.out _⟩
    · go_wp2_with fail
      refine (Sector_bad ok2 w2).mono ?_
      rintro e w3 ⟨rfl, hb⟩
      replace HB := Lib.hid (below_on HB.out hb)
      clear hb c20 c21 c22
      go_wp2
      go_ret
      exact ⟨rfl, HB.out⟩
  · go_wp2_with fail
    refine (Sector_bad ok1 w1).mono ?_
    rintro e w2 ⟨rfl, hb⟩
    replace HB := Lib.hid (below_on HB.out hb)
    replace H2 := Lib.hid (H2.out.keep hb)
    clear hb c10 c11 c12
    have c20 := H2.out.c0
    have c21 := H2.out.c1
    have c22 := H2.out.c2
    by_cases ok2 : Mark.Ok l2 r2 s2
    · go_wp2_with fail
      refine (Sector_ok ok2 w2).mono ?_
      rintro e w3 ⟨A3, rfl, _, hb⟩
      replace HB := Lib.hid (below_on HB.out hb)
      clear hb c20 c21 c22 ok2
      go_wp2
      go_ret
      exact ⟨rfl, HB.out⟩
    · go_wp2_with fail
      refine (Sector_bad ok2 w2).mono ?_
      rintro e w3 ⟨rfl, hb⟩
      replace HB := Lib.hid (below_on HB.out hb)
      clear hb c20 c21 c22
      go_wp2
      go_ret
      exact ⟨rfl, HB.out⟩

theorem own : ownKnob Try.prog.godebug = none := by kernel_rfl
theorem laid : laidOutB Try.prog = true := by kernel_rfl

set_option maxRecDepth 100000 in
theorem lifted (os : Os) (started : os.Started) (H : Type) (enc : TypeId × Value → H) :
    ReturnsInHanded {} Try.checked os 6 .any (Rows.markApartSpec.pre6 enc Try.prog Try.f6 Rows.markApartRow.domain false) (Rows.markApartSpec.post enc Try.prog Try.f6 false true false false) := by
  refine returnsInHanded_of_change (C := Try.checked) own started (by kernel_rfl) Try.func6
    (ChangeSpec.witness6 (enc := enc) (C := Try.checked) false ⟨#[], #[.agg #[.int .i64 0, .int .i64 0, .int .i64 0], .agg #[.int .i64 0, .int .i64 0, .int .i64 0]], []⟩ 8 (by kernel_rfl) (by kernel_rfl) (by kernel_rfl) (by kernel_rfl)) ?_
  intro W base args ds gs before hval0 hW _ _
  have hval : ∀ (j : Nat) t v, Try.f6.params[j]? = some t → args[j]? = some v → Value.okWide Try.prog W .any base t v := hval0
  have hW' := hW
  obtain ⟨p, q, hA0, hV, rfl, hfz, hnd⟩ := hW
  have hA : DataW.TrodAll enc Try.prog W 0 (fun _ => true) true Try.f6.params.toList args.toList ds p := hA0
  rw [Try.params6] at hA hval
  obtain ⟨v0, v1, d0, d1, p0, p1, rfl, rfl, rfl, h0, h1⟩ := trodAll_two hA
  obtain ⟨k0, l0, s0, rfl⟩ := open_oob Try.underlying23 rfl (by kernel_rfl) (by kernel_rfl) (hval 0 23 v0 rfl rfl) h0
  obtain ⟨k1, l1, s1, rfl⟩ := open_oob Try.underlying23 rfl (by kernel_rfl) (by kernel_rfl) (hval 1 23 v1 rfl rfl) h1
  refine (walk k0 l0 s0 k1 l1 s1 W ).mono fun e W' ⟨he, hb⟩ => ?_
  subst he
  exact ⟨_, rfl, Law.post laid (by kernel_rfl) (by kernel_rfl) Try.underlying4 rfl hW' rfl hb⟩

theorem proved : Rows.MarkApartSaid :=
  OpenClaim.holds_of_wide 6 Try.f6 rfl rfl rfl rfl rfl rfl rfl ⟨rfl, rfl, rfl, rfl, rfl⟩ rfl rfl rfl rfl rfl (by kernel_rfl) Try.func6 (by kernel_rfl)
    (of_decide_eq_true (by kernel_rfl)) (by unfold Func.isWrapper; first | (rw [if_pos (by decide +kernel)]; kernel_rfl) | (rw [if_neg (by decide +kernel)]; exact ⟨rfl, rfl⟩))
    (fun os started H enc _ => lifted os started H enc)

end Go.Proofs.Ytbdompmhgjkgbaa.markApart
