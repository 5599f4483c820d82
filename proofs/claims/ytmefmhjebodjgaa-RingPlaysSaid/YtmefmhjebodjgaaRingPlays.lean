/-
  RingPlays holds: any calls, one by one, at the program's ring and at the document's; for every size and all ops. No condition.
-/
import Derived.Test.YtmefmhjebodjgaaRingKit
import Derived.Test.YtmefmhjebodjgaaLawKit
import Derived.OpenShut
import Derived.Test.YtmefmhjebodjgaaRingDoesF
import Derived.Test.YtmefmhjebodjgaaRingDoesP
import Derived.Test.YtmefmhjebodjgaaRingDoesT
import Derived.Test.YtmefmhjebodjgaaRingOps
namespace Go.Proofs.Ytmefmhjebodjgaa.ringPlays
open Go.RowKit Go.ChangeShapes Go.WideShapes Ring RingPkg RingLaw
set_option maxRecDepth 4000

theorem does_any {a w : World} {gp gq : Nat} {size : Int} {al : All} (h : Pr a gp gq size al al w) (hl : al.length ≤ 100000) (h0 : 1 ≤ size) (h1 : size ≤ 256) (hfr : 0 ≤ size - al.length + tl al) (x0 x1 : Int) (last : Bool) (k l s f : Int) (Ap : Option Addr) (np cp : Nat) (xs : List UInt8) (hnp : np ≤ 1000) (hby : Bytes w a.heap.size Ap np xs) :
    Calls Try.prog 17 #[ptr gp, ptr gq, .agg #[.int .i64 x0, .int .i64 x1, .bool last, .int .i64 k, .int .i64 l, .int .i64 s, .slice Ap np cp, .int .i64 f]] w (Both a gp gq size al) := by
  by_cases e0 : x0 = 0
  · subst e0
    exact does_put0 h hl h0 h1 hfr x1 last k l s f Ap np cp xs hnp hby
  by_cases e1 : x0 = 1
  · subst e1
    exact does_put1 h hl h0 h1 hfr x1 last k l s f Ap np cp xs hnp hby
  by_cases e2 : x0 = 2
  · subst e2
    exact does_take h hl h0 h1 hfr x1 last k l s f Ap np cp xs hnp hby
  by_cases e3 : x0 = 3
  · subst e3
    exact does_done h hl h0 h1 hfr x1 last k l s f Ap np cp xs hnp hby
  by_cases e4 : x0 = 4
  · subst e4
    exact does_back h hl h0 h1 hfr x1 last k l s f Ap np cp xs hnp hby
  by_cases e5 : x0 = 5
  · subst e5
    exact does_get h hl h0 h1 hfr x1 last k l s f Ap np cp xs hnp hby
  by_cases e6 : x0 = 6
  · subst e6
    exact does_find h hl h0 h1 hfr x1 last k l s f Ap np cp xs hnp hby
  exact does_other h hl h0 h1 hfr x0 x1 last k l s f Ap np cp xs hnp hby e0 e1 e2 e3 e4 e5 e6

set_option maxHeartbeats 4000000 in
theorem walk (size : Int) (A : Option Addr) (n c : Nat) (w : World) (_hz0 : -9223372036854775808 ≤ size) (_hz1 : size ≤ 9223372036854775807) (hnc : n ≤ c) (hcm : c ≤ maxLen) (hops : RingOps.Ops w w.heap.size A n) :
    Calls Try.prog 4 #[.int .i64 size, .slice A n c] w fun e w' => e = .returned (.bool true) ∧ Below w.heap.size w w' := by
  have HOPS := Lib.hid hops
  have hn : n ≤ 9223372036854775807 := Nat.le_trans hnc hcm
  have hcc : c ≤ 9223372036854775807 := hcm
  clear hops hcm _hz0 _hz1
  by_cases hin : 1 ≤ size ∧ size ≤ 256
  rotate_left
  · have H1 := Lib.hid (fun w => New_out size w hin)
    have H2 := Lib.hid (fun w => RingRef.New_out size w hin)
    clear hin
    by_cases hn0 : 0 < n
    all_goals
      go_enter Try.func4, Try.ntmps4
      go_wp2_with fail
      refine (awake_any _).mono ?_
      rintro e w1 ⟨rfl, hb⟩
      have HB := Lib.hid hb
      clear hb
      go_wp2_with fail
      refine (H1.out _).mono ?_
      rintro e w2 ⟨rfl, hw⟩
      subst w2
      go_wp2_with fail
      refine (H2.out _).mono ?_
      rintro e w2 ⟨rfl, hw⟩
      subst w2
      go_wp2
      go_loop [10] (fun i => i = .int .i64 0) (fun _ => 0)
      case atStart => rfl
      case round =>
        subst hrel
        go_wp2
        go_ret
        exact ⟨rfl, HB.out⟩
  obtain ⟨hs1, hs2⟩ := hin
  go_enter Try.func4, Try.ntmps4
  go_wp2_with fail
  refine (awake_any _).mono ?_
  rintro e w1 ⟨rfl, hb⟩
  have HB := Lib.hid hb
  clear hb
  go_wp2_with fail
  refine (New_m w w1 HB.out size hs1 hs2).mono ?_
  rintro e w2 ⟨gp, rfl, h⟩
  have HM := Lib.hid h
  clear h
  go_wp2_with fail
  refine (New_p w w2 HM.out.below size hs1 hs2 gp HM.out).mono ?_
  rintro e w3 ⟨gq, rfl, h⟩
  have H := Lib.hid h
  clear h HM HB
  go_wp2
  go_loopw [10] (fun i wr => ∃ j : Nat, j ≤ n ∧ j ≤ 200 ∧ i = .int .i64 j ∧ ∃ al : All, al.length ≤ j ∧ 0 ≤ size - al.length + tl al ∧ Pr w gp gq size al al wr) (fun i _ => n - (intOf i).toNat)
  case atStart => exact ⟨0, by omega, by omega, rfl, [], by simp, by simp [tl]; omega, H.out⟩
  case round =>
    obtain ⟨j, hj, hj2, rfl, al, hal, hfr, h⟩ := hrel
    replace H := Lib.hid h
    clear h
    by_cases hgo : j < n ∧ j < 200
    rotate_left
    · have hstop : decide (j < n) = false ∨ (decide (j < n) = true ∧ decide ((j : Int) < 200) = false) := by
        by_cases h : j < n
        · exact .inr ⟨by simpa using h, by have : ¬ j < 200 := fun h2 => hgo ⟨h, h2⟩; simp; omega⟩
        · exact .inl (by simpa using h)
      clear hgo
      rcases hstop with h1 | ⟨h1, h2⟩
      all_goals
        go_wp2
        go_ret
        exact ⟨rfl, H.out.below⟩
    obtain ⟨hlt1, hlt2⟩ := hgo
    obtain ⟨b8, o8, x0, x1, last, k, l, s, f, xs, Ap, np, cp, rfl, hop⟩ := HOPS.out j hlt1
    obtain ⟨q0, q1, q2, q3, q4, q5, q6, q7, _, hnp, htop, hdat⟩ := hop.keep H.out.below
    have HDT := Lib.hid hdat
    have hnp2 : np ≤ 9223372036854775807 := Nat.le_trans hnp htop
    clear hop hdat htop
    by_cases hbig : 1000 < np
    · go_wp2
      go_ret
      exact ⟨rfl, H.out.below⟩
    have HDO := Lib.hid (does_any H.out (by omega) hs1 hs2 hfr x0 x1 last k l s f Ap np cp xs (by omega) HDT.out)
    clear hfr
    go_wp2_with fail
    refine HDO.out.mono ?_
    rintro e w4 ⟨al', rfl, h, hal', hfr'⟩
    replace H := Lib.hid h
    have HFR := Lib.hid hfr'
    have hl3 : al'.length ≤ 1000000 := by omega
    clear h HDO HDT q0 q1 q2 q3 q4 q5 q6 q7 hfr'
    go_wp2_with fail
    refine (Head_p H.out hl3).mono ?_
    rintro e w9 ⟨rfl, hh⟩
    replace H := Lib.hid hh
    clear hh
    go_wp2_with fail
    refine (Head_q H.out).mono ?_
    rintro e w9 ⟨rfl, hw⟩
    subst w9
    go_wp2_with fail
    refine (Tail_p H.out).mono ?_
    rintro e w9 ⟨rfl, hh⟩
    replace H := Lib.hid hh
    clear hh
    go_wp2_with fail
    refine (Tail_q H.out hl3).mono ?_
    rintro e w9 ⟨rfl, hw⟩
    subst w9
    go_wp2_with fail
    refine (Waiting_p H.out hl3).mono ?_
    rintro e w9 ⟨rfl, hh⟩
    replace H := Lib.hid hh
    clear hh
    go_wp2_with fail
    refine (Waiting_q H.out hl3).mono ?_
    rintro e w9 ⟨rfl, hw⟩
    subst w9
    go_wp2_with fail
    refine (Free_p H.out hl3 (by omega) (by omega)).mono ?_
    rintro e w9 ⟨rfl, hh⟩
    replace H := Lib.hid hh
    clear hh
    go_wp2_with fail
    refine (Free_q H.out hl3 (by omega) (by omega)).mono ?_
    rintro e w9 ⟨rfl, hh⟩
    replace H := Lib.hid hh
    clear hh
    go_wp2
    go_roundw
    case rel => exact ⟨j + 1, by omega, by omega, by go_num, al', by omega, HFR.out, H.out⟩
    case measure => simp [intOf]; omega

theorem own : ownKnob Try.prog.godebug = none := by kernel_rfl
theorem laid : laidOutB Try.prog = true := by kernel_rfl

set_option maxRecDepth 100000 in
theorem lifted (os : Os) (started : os.Started) (H : Type) (enc : TypeId × Value → H) :
    ReturnsInHanded {} Try.checked os 4 .any (Rows.ringPlaysSpec.pre6 enc Try.prog Try.f4 Rows.ringPlaysRow.domain false) (Rows.ringPlaysSpec.post enc Try.prog Try.f4 false true false false) := by
  refine returnsInHanded_of_change (C := Try.checked) own started (by kernel_rfl) Try.func4
    (ChangeSpec.witness6 (enc := enc) (C := Try.checked) false ⟨#[], #[.int .i64 0, .slice none 0 0], []⟩ 8 (by kernel_rfl) (by kernel_rfl) (by kernel_rfl) (by kernel_rfl)) ?_
  intro W base args ds gs before hval0 hW _ _
  have hval : ∀ (j : Nat) t v, Try.f4.params[j]? = some t → args[j]? = some v → Value.okWide Try.prog W .any base t v := hval0
  have hW' := hW
  obtain ⟨p, q, hA0, hV, rfl, hfz, hnd⟩ := hW
  have hA : DataW.TrodAll enc Try.prog W 0 (fun _ => true) true Try.f4.params.toList args.toList ds p := hA0
  rw [Try.params4] at hA hval
  obtain ⟨v0, v1, d0, d1, p0, p1, rfl, rfl, rfl, h0, h1⟩ := trodAll_two hA
  obtain ⟨a0, rfl, rfl, rfl, wf0⟩ := open_int Try.underlying3 (hval 0 3 v0 rfl rfl) h0
  have hb0 : -9223372036854775808 ≤ a0 ∧ a0 ≤ 9223372036854775807 := by simpa [Lit.wf, IntKind.min, IntKind.max, IntKind.signed, IntKind.bits] using wf0
  obtain ⟨A1, n1, c1, rfl, hnc1, hcm1, hr1⟩ := RingOps.open_ops (hval 1 32 v1 rfl rfl) h1
  refine (walk a0 A1 n1 c1 W hb0.1 hb0.2 hnc1 hcm1 hr1).mono fun e W' ⟨he, hb⟩ => ?_
  subst he
  exact ⟨_, rfl, Law.post laid (by kernel_rfl) (by kernel_rfl) Try.underlying4 rfl hW' rfl hb⟩

theorem proved : Rows.RingPlaysSaid :=
  OpenClaim.holds_of_wide 4 Try.f4 rfl rfl rfl rfl rfl rfl rfl ⟨rfl, rfl, rfl, rfl, rfl⟩ rfl rfl rfl rfl rfl (by kernel_rfl) Try.func4 (by kernel_rfl)
    (of_decide_eq_true (by kernel_rfl)) (by unfold Func.isWrapper; first | (rw [if_pos (by decide +kernel)]; kernel_rfl) | (rw [if_neg (by decide +kernel)]; exact ⟨rfl, rfl⟩))
    (fun os started H enc _ => lifted os started H enc)

end Go.Proofs.Ytmefmhjebodjgaa.ringPlays
