/-
  MarkBack: for every mark and every slice of bytes the law answers true. No condition.
-/
import Derived.Test.YtbdompmhgjkgbaaMarkKit
namespace Go.Proofs.Ytbdompmhgjkgbaa.markBack
open Go.ChangeShapes Go.WideShapes Go.ChangeAt Go.RowKit Go.Proofs.Ytbdompmhgjkgbaa.OobPkg Go.Proofs.Ytbdompmhgjkgbaa.MarkPkg
set_option maxRecDepth 4000

set_option maxHeartbeats 1000000 in
theorem walk (l r s : Int) (A : Option Addr) (n c : Nat) (d : List UInt8) (w : World) (_hnc : n ≤ c) (_hcm : c ≤ maxLen) (hr : Bytes w w.heap.size A n d) :
    Calls Try.prog 5 #[tri l r s, .slice A n c] w fun e w' => e = .returned (.bool true) ∧ Below w.heap.size w w' := by
  have HB := Lib.hid ((Below.refl w.heap.size w).alloc (Nat.le_refl _) (.cells #[.int .i64 l, .int .i64 r, .int .i64 s] 23))
  have H1 := Lib.hid (Three.new 23 w l r s)
  have HR := Lib.hid hr
  clear hr
  go_enter Try.func5, Try.ntmps5
  go_wp2_with fail
  refine (awake_any _).mono ?_
  rintro e w1 ⟨rfl, hb⟩
  replace HB := Lib.hid (below_on HB.out hb)
  replace H1 := Lib.hid (H1.out.keep hb)
  clear hb
  have c10 := H1.out.c0
  have c11 := H1.out.c1
  have c12 := H1.out.c2
  by_cases ok1 : Mark.Ok l r s
  · have OK1 := Lib.hid ok1
    have HRC := Lib.hid (Mark.rd_code ok1)
    clear ok1
    go_wp2_with fail
    refine (Sector_ok OK1.out w1).mono ?_
    rintro e w2 ⟨A3, rfl, hr3, hb⟩
    replace HB := Lib.hid (below_on HB.out hb)
    replace H1 := Lib.hid (H1.out.keep hb)
    have HR3 := Lib.hid hr3
    clear hb hr3 c10 c11 c12
    go_wp2_with fail
    refine (Read_is HR3.out HRC.out).mono ?_
    rintro e w3 ⟨rfl, hb⟩
    replace HB := Lib.hid (below_on HB.out hb)
    replace H1 := Lib.hid (H1.out.keep hb)
    replace H1 := Lib.hid (H1.out.old (.cells #[.int .i64 l, .int .i64 r, .int .i64 s] 23))
    replace HB := Lib.hid (HB.out.alloc HB.out.size (.cells #[.int .i64 l, .int .i64 r, .int .i64 s] 23))
    clear hb HRC HR3
    have c10 := H1.out.c0
    have c11 := H1.out.c1
    have c12 := H1.out.c2
    rcases Mark.rd_cases d with h | ⟨l2, r2, s2, h, hok2, hful⟩
    · have HE := Lib.hid h
      clear h
      go_wp2_with fail
      refine (Read_is (bytes_more (bytes_keep HR.out HB.out) HB.out.size) HE.out).mono ?_
      rintro e w4 ⟨rfl, hb⟩
      replace HB := Lib.hid (below_on HB.out hb)
      clear hb c10 c11 c12
      go_wp2
      go_ret
      exact ⟨rfl, HB.out.alloc HB.out.size _⟩
    · have HE := Lib.hid h
      have HK := Lib.hid hok2
      have HF := Lib.hid hful
      clear h hok2 hful
      go_wp2_with fail
      refine (Read_is (bytes_more (bytes_keep HR.out HB.out) HB.out.size) HE.out).mono ?_
      rintro e w4 ⟨rfl, hb⟩
      replace HB := Lib.hid (below_on HB.out hb)
      clear hb c10 c11 c12
      have HB4 := Lib.hid (HB.out.alloc HB.out.size (.cells #[.int .i64 l2, .int .i64 r2, .int .i64 s2] 23))
      go_wp2_with fail
      refine (Sector_ok HK.out _).mono ?_
      rintro e w5 ⟨A5, rfl, hr5, hb⟩
      have HB5 := Lib.hid (below_on HB4.out hb)
      rw [HF.out] at hr5
      have hs1 := run_str (P := Try.prog) w5 25 9 5 Try.underlying25 Try.underlying5 Try.underlying9 (c := 16) hr5
      have hs2 := run_str (P := Try.prog) w5 25 9 5 Try.underlying25 Try.underlying5 Try.underlying9 (c := c) (bytes_keep HR.out HB5.out)
      have hq := str_neq d
      clear hr5 hb
      go_wp2
      go_ret
      exact ⟨rfl, HB5.out⟩
  · have OK1 := Lib.hid ok1
    clear ok1
    go_wp2_with fail
    refine (Sector_bad OK1.out w1).mono ?_
    rintro e w3 ⟨rfl, hb⟩
    replace HB := Lib.hid (below_on HB.out hb)
    clear hb c10 c11 c12 H1
    rcases Mark.rd_cases d with h | ⟨l2, r2, s2, h, hok2, hful⟩
    · have HE := Lib.hid h
      clear h
      go_wp2_with fail
      refine (Read_is (bytes_more (bytes_keep HR.out HB.out) HB.out.size) HE.out).mono ?_
      rintro e w4 ⟨rfl, hb⟩
      replace HB := Lib.hid (below_on HB.out hb)
      clear hb
      go_wp2
      go_ret
      exact ⟨rfl, HB.out.alloc HB.out.size _⟩
    · have HE := Lib.hid h
      have HK := Lib.hid hok2
      have HF := Lib.hid hful
      clear h hok2 hful
      go_wp2_with fail
      refine (Read_is (bytes_more (bytes_keep HR.out HB.out) HB.out.size) HE.out).mono ?_
      rintro e w4 ⟨rfl, hb⟩
      replace HB := Lib.hid (below_on HB.out hb)
      clear hb
      have HB4 := Lib.hid (HB.out.alloc HB.out.size (.cells #[.int .i64 l2, .int .i64 r2, .int .i64 s2] 23))
      go_wp2_with fail
      refine (Sector_ok HK.out _).mono ?_
      rintro e w5 ⟨A5, rfl, hr5, hb⟩
      have HB5 := Lib.hid (below_on HB4.out hb)
      rw [HF.out] at hr5
      have hs1 := run_str (P := Try.prog) w5 25 9 5 Try.underlying25 Try.underlying5 Try.underlying9 (c := 16) hr5
      have hs2 := run_str (P := Try.prog) w5 25 9 5 Try.underlying25 Try.underlying5 Try.underlying9 (c := c) (bytes_keep HR.out HB5.out)
      have hq := str_neq d
      clear hr5 hb
      go_wp2
      go_ret
      exact ⟨rfl, HB5.out⟩

theorem own : ownKnob Try.prog.godebug = none := by kernel_rfl
theorem laid : laidOutB Try.prog = true := by kernel_rfl
theorem one8 : Try.prog.cellsOf 5 = 1 := by kernel_rfl

set_option maxRecDepth 100000 in
theorem lifted (os : Os) (started : os.Started) (H : Type) (enc : TypeId × Value → H) :
    ReturnsInHanded {} Try.checked os 5 .any (Rows.markBackSpec.pre6 enc Try.prog Try.f5 Rows.markBackRow.domain false) (Rows.markBackSpec.post enc Try.prog Try.f5 false true false false) := by
  refine returnsInHanded_of_change (C := Try.checked) own started (by kernel_rfl) Try.func5
    (ChangeSpec.witness6 (enc := enc) (C := Try.checked) false ⟨#[], #[.agg #[.int .i64 0, .int .i64 0, .int .i64 0], .slice none 0 0], []⟩ 8 (by kernel_rfl) (by kernel_rfl) (by kernel_rfl) (by kernel_rfl)) ?_
  intro W base args ds gs before hval0 hW _ _
  have hval : ∀ (j : Nat) t v, Try.f5.params[j]? = some t → args[j]? = some v → Value.okWide Try.prog W .any base t v := hval0
  have hW' := hW
  obtain ⟨p, q, hA0, hV, rfl, hfz, hnd⟩ := hW
  have hA : DataW.TrodAll enc Try.prog W 0 (fun _ => true) true Try.f5.params.toList args.toList ds p := hA0
  rw [Try.params5] at hA hval
  obtain ⟨v0, v1, d0, d1, p0, p1, rfl, rfl, rfl, h0, h1⟩ := trodAll_two hA
  obtain ⟨k0, l0, s0, rfl⟩ := open_oob Try.underlying23 rfl (by kernel_rfl) (by kernel_rfl) (hval 0 23 v0 rfl rfl) h0
  obtain ⟨A1, n1, c1, xs1, rfl, hnc1, hcm1, hr1⟩ := open_bytes Try.underlying25 Try.underlying5 one8 (hval 1 25 v1 rfl rfl) h1
  refine (walk k0 l0 s0 A1 n1 c1 xs1 W hnc1 hcm1 hr1).mono fun e W' ⟨he, hb⟩ => ?_
  subst he
  exact ⟨_, rfl, Law.post laid (by kernel_rfl) (by kernel_rfl) Try.underlying4 rfl hW' rfl hb⟩

theorem proved : Rows.MarkBackSaid :=
  OpenClaim.holds_of_wide 5 Try.f5 rfl rfl rfl rfl rfl rfl rfl ⟨rfl, rfl, rfl, rfl, rfl⟩ rfl rfl rfl rfl rfl (by kernel_rfl) Try.func5 (by kernel_rfl)
    (of_decide_eq_true (by kernel_rfl)) (by unfold Func.isWrapper; first | (rw [if_pos (by decide +kernel)]; kernel_rfl) | (rw [if_neg (by decide +kernel)]; exact ⟨rfl, rfl⟩))
    (fun os started H enc _ => lifted os started H enc)

end Go.Proofs.Ytbdompmhgjkgbaa.markBack
