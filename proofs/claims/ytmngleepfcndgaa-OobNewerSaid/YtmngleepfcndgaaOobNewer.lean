/-
  OobNewer: for all metadata the law answers true. No condition.
-/
import Derived.Test.YtmngleepfcndgaaOobKit
namespace Go.Proofs.Ytmngleepfcndgaa.oobNewer
open Go.ChangeShapes Go.WideShapes Go.ChangeAt Go.RowKit Go.Proofs.Ytmngleepfcndgaa.OobPkg
set_option maxRecDepth 4000

set_option maxHeartbeats 1000000 in
theorem walk (k1 l1 s1 k2 l2 s2 k3 l3 s3 : Int) (w : World) :
    Calls Try.prog 7 #[oob k1 l1 s1, oob k2 l2 s2, oob k3 l3 s3] w fun e w' => e = .returned (.bool true) ∧ Below w.heap.size w w' := by
  have HB := Lib.hid ((((Below.refl w.heap.size w).alloc (Nat.le_refl _) (.cells #[.int .i64 k1, .int .i64 l1, .int .i64 s1] 23)).alloc (by simp) (.cells #[.int .i64 k2, .int .i64 l2, .int .i64 s2] 23)).alloc (by simp; omega) (.cells #[.int .i64 k3, .int .i64 l3, .int .i64 s3] 23))
  have H1 := Lib.hid (((Tri.new w k1 l1 s1).old (.cells #[.int .i64 k2, .int .i64 l2, .int .i64 s2] 23)).old (.cells #[.int .i64 k3, .int .i64 l3, .int .i64 s3] 23))
  have H2 := Lib.hid ((Tri.newAt (w := w.alloc (.cells #[.int .i64 k1, .int .i64 l1, .int .i64 s1] 23)) (g := w.heap.size + 1) (by simp) k2 l2 s2).old (.cells #[.int .i64 k3, .int .i64 l3, .int .i64 s3] 23))
  have H3 := Lib.hid (Tri.newAt (w := (w.alloc (.cells #[.int .i64 k1, .int .i64 l1, .int .i64 s1] 23)).alloc (.cells #[.int .i64 k2, .int .i64 l2, .int .i64 s2] 23)) (g := w.heap.size + 1 + 1) (by simp) k3 l3 s3)
  go_enter Try.func7, Try.ntmps7
  go_wp2_with fail
  refine (awake_any _).mono ?_
  rintro e w1 ⟨rfl, hb⟩
  replace HB := Lib.hid (below_on HB.out hb)
  replace H1 := Lib.hid (H1.out.keep hb)
  replace H2 := Lib.hid (H2.out.keep hb)
  replace H3 := Lib.hid (H3.out.keep hb)
  clear hb
  generalize w.heap.size + 1 + 1 = g3 at H3 ⊢
  generalize w.heap.size + 1 = g2 at H2 ⊢
  generalize hg1 : w.heap.size = g1 at H1 ⊢
  clear hg1
  rcases Int.lt_trichotomy s1 s2 with h | h | h
  · have hne : (s1 != s2) = true := by simp; omega
    have hng : decide (s2 < s1) = false := by simp; omega
    have c10 := H1.out.c0
    have c11 := H1.out.c1
    have c12 := H1.out.c2
    have c20 := H2.out.c0
    have c21 := H2.out.c1
    have c22 := H2.out.c2
    have c30 := H3.out.c0
    have c31 := H3.out.c1
    have c32 := H3.out.c2
    go_wp2_with fail
    refine (newer_no k1 l1 s1 k2 l2 s2 (by omega) _).mono ?_
    rintro e w2 ⟨rfl, hb⟩
    replace HB := Lib.hid (below_on HB.out hb)
    replace H1 := Lib.hid (H1.out.keep hb)
    replace H2 := Lib.hid (H2.out.keep hb)
    replace H3 := Lib.hid (H3.out.keep hb)
    clear hb c10 c11 c12 c20 c21 c22 c30 c31 c32
    have c10 := H1.out.c0
    have c11 := H1.out.c1
    have c12 := H1.out.c2
    have c20 := H2.out.c0
    have c21 := H2.out.c1
    have c22 := H2.out.c2
    have c30 := H3.out.c0
    have c31 := H3.out.c1
    have c32 := H3.out.c2
    go_wp2_with fail
    refine (newer_yes k2 l2 s2 k1 l1 s1 (by omega) _).mono ?_
    rintro e w3 ⟨rfl, hb⟩
    replace HB := Lib.hid (below_on HB.out hb)
    replace H1 := Lib.hid (H1.out.keep hb)
    replace H2 := Lib.hid (H2.out.keep hb)
    replace H3 := Lib.hid (H3.out.keep hb)
    clear hb c10 c11 c12 c20 c21 c22 c30 c31 c32
    by_cases hz : s3 < s2
    · have c10 := H1.out.c0
      have c11 := H1.out.c1
      have c12 := H1.out.c2
      have c20 := H2.out.c0
      have c21 := H2.out.c1
      have c22 := H2.out.c2
      have c30 := H3.out.c0
      have c31 := H3.out.c1
      have c32 := H3.out.c2
      go_wp2_with fail
      refine (newer_yes k2 l2 s2 k3 l3 s3 (by omega) _).mono ?_
      rintro e w4 ⟨rfl, hb⟩
      replace HB := Lib.hid (below_on HB.out hb)
      replace H1 := Lib.hid (H1.out.keep hb)
      replace H2 := Lib.hid (H2.out.keep hb)
      replace H3 := Lib.hid (H3.out.keep hb)
      clear hb c10 c11 c12 c20 c21 c22 c30 c31 c32
      have c10 := H1.out.c0
      have c11 := H1.out.c1
      have c12 := H1.out.c2
      have c20 := H2.out.c0
      have c21 := H2.out.c1
      have c22 := H2.out.c2
      have c30 := H3.out.c0
      have c31 := H3.out.c1
      have c32 := H3.out.c2
      go_wp2
      go_ret
      exact ⟨rfl, HB.out⟩
    · have c10 := H1.out.c0
      have c11 := H1.out.c1
      have c12 := H1.out.c2
      have c20 := H2.out.c0
      have c21 := H2.out.c1
      have c22 := H2.out.c2
      have c30 := H3.out.c0
      have c31 := H3.out.c1
      have c32 := H3.out.c2
      go_wp2_with fail
      refine (newer_no k2 l2 s2 k3 l3 s3 (by omega) _).mono ?_
      rintro e w4 ⟨rfl, hb⟩
      replace HB := Lib.hid (below_on HB.out hb)
      replace H1 := Lib.hid (H1.out.keep hb)
      replace H2 := Lib.hid (H2.out.keep hb)
      replace H3 := Lib.hid (H3.out.keep hb)
      clear hb c10 c11 c12 c20 c21 c22 c30 c31 c32
      have c10 := H1.out.c0
      have c11 := H1.out.c1
      have c12 := H1.out.c2
      have c20 := H2.out.c0
      have c21 := H2.out.c1
      have c22 := H2.out.c2
      have c30 := H3.out.c0
      have c31 := H3.out.c1
      have c32 := H3.out.c2
      go_wp2
      go_ret
      exact ⟨rfl, HB.out⟩
  · have hne : (s1 != s2) = false := by simp; omega
    have hng : decide (s2 < s1) = false := by simp; omega
    have H := Lib.hid h
    clear h
    have c10 := H1.out.c0
    have c11 := H1.out.c1
    have c12 := H1.out.c2
    have c20 := H2.out.c0
    have c21 := H2.out.c1
    have c22 := H2.out.c2
    have c30 := H3.out.c0
    have c31 := H3.out.c1
    have c32 := H3.out.c2
    go_wp2_with fail
    refine (newer_no k1 l1 s1 k2 l2 s2 (by have := H.out; omega) _).mono ?_
    rintro e w2 ⟨rfl, hb⟩
    replace HB := Lib.hid (below_on HB.out hb)
    replace H1 := Lib.hid (H1.out.keep hb)
    replace H2 := Lib.hid (H2.out.keep hb)
    replace H3 := Lib.hid (H3.out.keep hb)
    clear hb c10 c11 c12 c20 c21 c22 c30 c31 c32
    have c10 := H1.out.c0
    have c11 := H1.out.c1
    have c12 := H1.out.c2
    have c20 := H2.out.c0
    have c21 := H2.out.c1
    have c22 := H2.out.c2
    have c30 := H3.out.c0
    have c31 := H3.out.c1
    have c32 := H3.out.c2
    go_wp2_with fail
    refine (newer_no k2 l2 s2 k1 l1 s1 (by have := H.out; omega) _).mono ?_
    rintro e w3 ⟨rfl, hb⟩
    replace HB := Lib.hid (below_on HB.out hb)
    replace H1 := Lib.hid (H1.out.keep hb)
    replace H2 := Lib.hid (H2.out.keep hb)
    replace H3 := Lib.hid (H3.out.keep hb)
    clear hb c10 c11 c12 c20 c21 c22 c30 c31 c32
    by_cases hz : s3 < s2
    · have c10 := H1.out.c0
      have c11 := H1.out.c1
      have c12 := H1.out.c2
      have c20 := H2.out.c0
      have c21 := H2.out.c1
      have c22 := H2.out.c2
      have c30 := H3.out.c0
      have c31 := H3.out.c1
      have c32 := H3.out.c2
      go_wp2_with fail
      refine (newer_yes k2 l2 s2 k3 l3 s3 (by have := H.out; omega) _).mono ?_
      rintro e w4 ⟨rfl, hb⟩
      replace HB := Lib.hid (below_on HB.out hb)
      replace H1 := Lib.hid (H1.out.keep hb)
      replace H2 := Lib.hid (H2.out.keep hb)
      replace H3 := Lib.hid (H3.out.keep hb)
      clear hb c10 c11 c12 c20 c21 c22 c30 c31 c32
      have c10 := H1.out.c0
      have c11 := H1.out.c1
      have c12 := H1.out.c2
      have c20 := H2.out.c0
      have c21 := H2.out.c1
      have c22 := H2.out.c2
      have c30 := H3.out.c0
      have c31 := H3.out.c1
      have c32 := H3.out.c2
      go_wp2
      go_ret
      exact ⟨rfl, HB.out⟩
    · have c10 := H1.out.c0
      have c11 := H1.out.c1
      have c12 := H1.out.c2
      have c20 := H2.out.c0
      have c21 := H2.out.c1
      have c22 := H2.out.c2
      have c30 := H3.out.c0
      have c31 := H3.out.c1
      have c32 := H3.out.c2
      go_wp2_with fail
      refine (newer_no k2 l2 s2 k3 l3 s3 (by have := H.out; omega) _).mono ?_
      rintro e w4 ⟨rfl, hb⟩
      replace HB := Lib.hid (below_on HB.out hb)
      replace H1 := Lib.hid (H1.out.keep hb)
      replace H2 := Lib.hid (H2.out.keep hb)
      replace H3 := Lib.hid (H3.out.keep hb)
      clear hb c10 c11 c12 c20 c21 c22 c30 c31 c32
      have c10 := H1.out.c0
      have c11 := H1.out.c1
      have c12 := H1.out.c2
      have c20 := H2.out.c0
      have c21 := H2.out.c1
      have c22 := H2.out.c2
      have c30 := H3.out.c0
      have c31 := H3.out.c1
      have c32 := H3.out.c2
      go_wp2
      go_ret
      exact ⟨rfl, HB.out⟩
  · have hne : (s1 != s2) = true := by simp; omega
    have hng : decide (s2 < s1) = true := by simp; omega
    have c10 := H1.out.c0
    have c11 := H1.out.c1
    have c12 := H1.out.c2
    have c20 := H2.out.c0
    have c21 := H2.out.c1
    have c22 := H2.out.c2
    have c30 := H3.out.c0
    have c31 := H3.out.c1
    have c32 := H3.out.c2
    go_wp2_with fail
    refine (newer_yes k1 l1 s1 k2 l2 s2 (by omega) _).mono ?_
    rintro e w2 ⟨rfl, hb⟩
    replace HB := Lib.hid (below_on HB.out hb)
    replace H1 := Lib.hid (H1.out.keep hb)
    replace H2 := Lib.hid (H2.out.keep hb)
    replace H3 := Lib.hid (H3.out.keep hb)
    clear hb c10 c11 c12 c20 c21 c22 c30 c31 c32
    have c10 := H1.out.c0
    have c11 := H1.out.c1
    have c12 := H1.out.c2
    have c20 := H2.out.c0
    have c21 := H2.out.c1
    have c22 := H2.out.c2
    have c30 := H3.out.c0
    have c31 := H3.out.c1
    have c32 := H3.out.c2
    go_wp2_with fail
    refine (newer_no k2 l2 s2 k1 l1 s1 (by omega) _).mono ?_
    rintro e w3 ⟨rfl, hb⟩
    replace HB := Lib.hid (below_on HB.out hb)
    replace H1 := Lib.hid (H1.out.keep hb)
    replace H2 := Lib.hid (H2.out.keep hb)
    replace H3 := Lib.hid (H3.out.keep hb)
    clear hb c10 c11 c12 c20 c21 c22 c30 c31 c32
    by_cases hz : s3 < s2
    · have c10 := H1.out.c0
      have c11 := H1.out.c1
      have c12 := H1.out.c2
      have c20 := H2.out.c0
      have c21 := H2.out.c1
      have c22 := H2.out.c2
      have c30 := H3.out.c0
      have c31 := H3.out.c1
      have c32 := H3.out.c2
      go_wp2_with fail
      refine (newer_yes k2 l2 s2 k3 l3 s3 (by omega) _).mono ?_
      rintro e w4 ⟨rfl, hb⟩
      replace HB := Lib.hid (below_on HB.out hb)
      replace H1 := Lib.hid (H1.out.keep hb)
      replace H2 := Lib.hid (H2.out.keep hb)
      replace H3 := Lib.hid (H3.out.keep hb)
      clear hb c10 c11 c12 c20 c21 c22 c30 c31 c32
      have c10 := H1.out.c0
      have c11 := H1.out.c1
      have c12 := H1.out.c2
      have c20 := H2.out.c0
      have c21 := H2.out.c1
      have c22 := H2.out.c2
      have c30 := H3.out.c0
      have c31 := H3.out.c1
      have c32 := H3.out.c2
      go_wp2_with fail
      refine (newer_yes k1 l1 s1 k3 l3 s3 (by omega) _).mono ?_
      rintro e w5 ⟨rfl, hb⟩
      replace HB := Lib.hid (below_on HB.out hb)
      replace H1 := Lib.hid (H1.out.keep hb)
      replace H2 := Lib.hid (H2.out.keep hb)
      replace H3 := Lib.hid (H3.out.keep hb)
      clear hb c10 c11 c12 c20 c21 c22 c30 c31 c32
      have c10 := H1.out.c0
      have c11 := H1.out.c1
      have c12 := H1.out.c2
      have c20 := H2.out.c0
      have c21 := H2.out.c1
      have c22 := H2.out.c2
      have c30 := H3.out.c0
      have c31 := H3.out.c1
      have c32 := H3.out.c2
      go_wp2
      go_ret
      exact ⟨rfl, HB.out⟩
    · have c10 := H1.out.c0
      have c11 := H1.out.c1
      have c12 := H1.out.c2
      have c20 := H2.out.c0
      have c21 := H2.out.c1
      have c22 := H2.out.c2
      have c30 := H3.out.c0
      have c31 := H3.out.c1
      have c32 := H3.out.c2
      go_wp2_with fail
      refine (newer_no k2 l2 s2 k3 l3 s3 (by omega) _).mono ?_
      rintro e w4 ⟨rfl, hb⟩
      replace HB := Lib.hid (below_on HB.out hb)
      replace H1 := Lib.hid (H1.out.keep hb)
      replace H2 := Lib.hid (H2.out.keep hb)
      replace H3 := Lib.hid (H3.out.keep hb)
      clear hb c10 c11 c12 c20 c21 c22 c30 c31 c32
      have c10 := H1.out.c0
      have c11 := H1.out.c1
      have c12 := H1.out.c2
      have c20 := H2.out.c0
      have c21 := H2.out.c1
      have c22 := H2.out.c2
      have c30 := H3.out.c0
      have c31 := H3.out.c1
      have c32 := H3.out.c2
      go_wp2
      go_ret
      exact ⟨rfl, HB.out⟩

theorem own : ownKnob Try.prog.godebug = none := by kernel_rfl
theorem laid : laidOutB Try.prog = true := by kernel_rfl

set_option maxRecDepth 100000 in
theorem lifted (os : Os) (started : os.Started) (H : Type) (enc : TypeId × Value → H) :
    ReturnsInHanded {} Try.checked os 7 .any (Rows.oobNewerSpec.pre6 enc Try.prog Try.f7 Rows.oobNewerRow.domain false) (Rows.oobNewerSpec.post enc Try.prog Try.f7 false true false false) := by
  refine returnsInHanded_of_change (C := Try.checked) own started (by kernel_rfl) Try.func7
    (ChangeSpec.witness6 (enc := enc) (C := Try.checked) false ⟨#[], #[.agg #[.int .i64 0, .int .i64 0, .int .i64 0], .agg #[.int .i64 0, .int .i64 0, .int .i64 0], .agg #[.int .i64 0, .int .i64 0, .int .i64 0]], []⟩ 8 (by kernel_rfl) (by kernel_rfl) (by kernel_rfl) (by kernel_rfl)) ?_
  intro W base args ds gs before hval0 hW _ _
  have hval : ∀ (j : Nat) t v, Try.f7.params[j]? = some t → args[j]? = some v → Value.okWide Try.prog W .any base t v := hval0
  have hW' := hW
  obtain ⟨p, q, hA0, hV, rfl, hfz, hnd⟩ := hW
  have hA : DataW.TrodAll enc Try.prog W 0 (fun _ => true) true Try.f7.params.toList args.toList ds p := hA0
  rw [Try.params7] at hA hval
  obtain ⟨v0, v1, v2, d0, d1, d2, p0, p1, p2, rfl, rfl, rfl, h0, h1, h2⟩ := trodAll_three hA
  obtain ⟨k0, l0, s0, rfl⟩ := open_oob Try.underlying23 rfl (by kernel_rfl) (by kernel_rfl) (hval 0 23 v0 rfl rfl) h0
  obtain ⟨k1, l1, s1, rfl⟩ := open_oob Try.underlying23 rfl (by kernel_rfl) (by kernel_rfl) (hval 1 23 v1 rfl rfl) h1
  obtain ⟨k2, l2, s2, rfl⟩ := open_oob Try.underlying23 rfl (by kernel_rfl) (by kernel_rfl) (hval 2 23 v2 rfl rfl) h2
  refine (walk k0 l0 s0 k1 l1 s1 k2 l2 s2 W ).mono fun e W' ⟨he, hb⟩ => ?_
  subst he
  exact ⟨_, rfl, Law.post laid (by kernel_rfl) (by kernel_rfl) Try.underlying4 rfl hW' rfl hb⟩

theorem proved : Rows.OobNewerSaid :=
  OpenClaim.holds_of_wide 7 Try.f7 rfl rfl rfl rfl rfl rfl rfl ⟨rfl, rfl, rfl, rfl, rfl⟩ rfl rfl rfl rfl rfl (by kernel_rfl) Try.func7 (by kernel_rfl)
    (of_decide_eq_true (by kernel_rfl)) (by unfold Func.isWrapper; first | (rw [if_pos (by decide +kernel)]; kernel_rfl) | (rw [if_neg (by decide +kernel)]; exact ⟨rfl, rfl⟩))
    (fun os started H enc _ => lifted os started H enc)

end Go.Proofs.Ytmngleepfcndgaa.oobNewer
