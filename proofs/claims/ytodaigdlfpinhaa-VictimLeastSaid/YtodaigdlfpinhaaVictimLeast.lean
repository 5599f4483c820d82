/-
  VictimLeast holds: no line that may be moved has less than the one that is picked; for whatever lines came in. No condition.
-/
import Derived.Test.YtodaigdlfpinhaaVictimKit
import Derived.Test.YtodaigdlfpinhaaVictimOps
import Derived.Test.YtodaigdlfpinhaaLawKit
import Derived.OpenShut
namespace Go.Proofs.Ytodaigdlfpinhaa.victimLeast
open Go.RowKit Go.ChangeShapes Go.WideShapes Victim VictimPkg VictimLaw Lib
set_option maxRecDepth 4000

set_option maxHeartbeats 8000000 in
theorem walk (A : Option Addr) (n c : Nat) (f : Nat → Ln) (w : World) (hnc : n ≤ c) (hcm : c ≤ maxLen) (hr : Lines w w.heap.size A n f) :
    Calls Try.prog 6 #[.slice A n c] w fun e w' => e = .returned (.bool true) ∧ Below w.heap.size w w' := by
  have hnm := Nat.le_trans hnc hcm
  unfold maxLen at hnm
  clear hnc hcm
  have HA := Lib.hid (awake_any w)
  by_cases hbig : 300 < n
  · have hbig' : (300 : Int) < n := by omega
    clear hr
    go_enter Try.func6, Try.ntmps6
    go_wp2_with fail
    refine HA.out.mono ?_
    rintro e w1 ⟨rfl, hb⟩
    have HB := Lib.hid hb
    clear hb
    go_wp2
    go_ret
    exact ⟨rfl, HB.out⟩
  have hn : n ≤ 300 := by omega
  have hn' : (n : Int) ≤ 300 := by omega
  have hnb : decide ((300 : Int) < (n : Int)) = false := decide_eq_false (by omega)
  have HR := Lib.hid hr
  clear hr hbig
  have mixed : Try.prog.follows .mixedOrders = true := by kernel_rfl
  have HP := Lib.hid (fun W (hW : Below w.heap.size w W) => Pick_any (HR.out.keep hW) hW.size (by omega) c)
  have HG := Lib.hid (fun W (hW : Below w.heap.size w W) (j : Nat) (hj : j < n) => Gain_in (HR.out.keep hW) hW.size j hj c)
  have HO := Lib.hid (fun W (hW : Below w.heap.size w W) => Order_any (HR.out.keep hW) hW.size (by omega) c)
  rcases pick_cases f n with ⟨h1, h2, h3, h4⟩ | ⟨i, hi, hm, h2, h3, h4⟩
  · rw [h2] at HP
    rw [h1] at HO
    have HN := Lib.hid h4
    clear h1 h2 h3 h4 HR
    go_enter Try.func6, Try.ntmps6
    go_wp2_with fail
    refine HA.out.mono ?_
    rintro e w1 ⟨rfl, hb⟩
    have HB := Lib.hid hb
    clear hb
    go_wp2_with fail
    refine (HP.out _ HB.out).mono ?_
    rintro e w2 ⟨rfl, hb⟩
    replace HB := Lib.hid (below_then HB.out hb)
    clear hb HP
    go_wp2_with fail
    go_loopw [6] (fun i wr => ∃ t : Nat, i = .int .i64 (t : Int) ∧ t ≤ n ∧ Below w.heap.size w wr) (fun i _ => n - (intOf i).toNat)
    case atStart => exact ⟨0, rfl, by omega, HB.out⟩
    case round =>
      clear HB
      obtain ⟨t, rfl, ht, hbw⟩ := hrel
      have HB := Lib.hid hbw
      clear hbw
      by_cases htn : t < n
      · have htn' : (t : Int) < n := by omega
        have HGT := Lib.hid (HG.out _ HB.out t htn)
        rw [gain_no htn (HN.out t htn)] at HGT
        go_wp2_with fail
        refine HGT.out.mono ?_
        rintro e w3 ⟨rfl, hb⟩
        replace HB := Lib.hid (below_then HB.out hb)
        clear hb HGT
        go_wp2
        go_roundw
        case measure => simp [intOf]; omega
        case rel => exact ⟨t + 1, by go_num, by omega, HB.out⟩
      · obtain rfl : n = t := by omega
        have HOT := Lib.hid (HO.out _ HB.out)
        clear HO HG HN
        go_wp2_with fail
        refine HOT.out.mono ?_
        rintro e w3 ⟨Q, m, rfl, hm, _, _, hb⟩
        obtain rfl : m = 0 := hm
        replace HB := Lib.hid (below_then HB.out hb)
        clear hb HOT
        go_wp2
        go_ret
        exact ⟨by first | rfl | simp, HB.out⟩
  · rw [h2] at HP
    have hn0 : 0 < (rks f n).length := Nat.lt_of_le_of_lt (Nat.zero_le _) (cntb_lt hi hm)
    have h5 : (idx f n).getD 0 0 = (i : Int) := by simp [List.getD, h3]
    have HN : Hid (∀ j, j < n → may (f j) = true → (f i).vd ≤ (f j).vd) := Lib.hid fun j hj hmj => by
      have := h4 j hj hmj
      rw [← Bool.not_eq_true, lt_iff] at this
      unfold key at this
      simp only at this
      omega
    have hg1 := gain_pos hi hm
    have HGI := Lib.hid (fun W hW => HG.out W hW i hi)
    generalize gain f n (i : Int) = gi at hg1 HGI
    have hs2 : (f i).st = 2 := ((may_iff _).1 hm).1
    have HS2 := Lib.hid hs2
    obtain ⟨b, off, rfl, hb, _⟩ := HR.out.form (show 0 < n by omega)
    have HL := Lib.hid (fun W (hW : Below w.heap.size w W) j (hj : j < n) => show LineAt W b (off + j * 5) (f j) from by
      obtain ⟨b', off', e, _, hl⟩ := (HR.out.keep hW) j hj
      injection e with e
      injection e with e1 e2
      subst e1 e2
      exact hl)
    have HN0 := Lib.hid hn0
    have H5 := Lib.hid h5
    have hi' : (i : Int) < n := by omega
    clear h2 h3 h4 h5 hn0 hm hs2 HR
    go_enter Try.func6, Try.ntmps6
    go_wp2_with fail
    refine HA.out.mono ?_
    rintro e w1 ⟨rfl, hb⟩
    have HB := Lib.hid hb
    clear hb
    go_wp2_with fail
    refine (HP.out _ HB.out).mono ?_
    rintro e w2 ⟨rfl, hb⟩
    replace HB := Lib.hid (below_then HB.out hb)
    have k0 := (HL.out _ HB.out i hi).c0
    rw [HS2.out] at k0
    have d1 : decide (gi < 1) = false := decide_eq_false (by omega)
    have d0 : decide ((i : Int) < 0) = false := decide_eq_false (by omega)
    have d00 : decide (n ≤ i) = false := decide_eq_false (by omega)
    clear hb HP hg1
    go_wp2_with fail
    refine (HGI.out _ HB.out).mono ?_
    rintro e w3 ⟨rfl, hb⟩
    replace HB := Lib.hid (below_then HB.out hb)
    clear hb HGI k0
    go_wp2_with fail
    clear d1
    go_loopw [7] (fun i wr => ∃ t : Nat, i = .int .i64 (t : Int) ∧ t ≤ n ∧ Below w.heap.size w wr) (fun i _ => n - (intOf i).toNat)
    case atStart => exact ⟨0, rfl, by omega, HB.out⟩
    case round =>
      clear HB
      obtain ⟨t, rfl, ht, hbw⟩ := hrel
      have HB := Lib.hid hbw
      clear hbw
      by_cases htn : t < n
      · have htn' : (t : Int) < n := by omega
        have HGT := Lib.hid (fun (p : Later wr) => HG.out _ (below_then HB.out p.h) t htn)
        have k3 := fun (p : Later wr) => (HL.out _ (below_then HB.out p.h) t htn).c3
        have q3 := fun (p : Later wr) => (HL.out _ (below_then HB.out p.h) i hi).c3
        have hcm := HN.out t htn
        have hgp := gain_in (f := f) htn
        generalize (f t).vd = vt at *
        generalize (f i).vd = vi at *
        cases hmt : may (f t) with
        | true =>
          have hv := hcm hmt
          have d2 : decide (vt < vi) = false := decide_eq_false (by omega)
          have hgq := gain_pos htn hmt
          generalize gain f n (t : Int) = gt at HGT hgq hgp
          have d3 : decide (0 < gt) = true := decide_eq_true (by omega)
          clear hcm hgp hv hgq hmt
          go_wp2_with fail
          refine wp_region_later mixed (by kernel_rfl) ?_
          repeat (go_big_quiet_step (exact Later.calls (HGT.out _)))
          refine wpQuiet_nil ?_
          intro _ hw'
          obtain ⟨⟨w3, hb3⟩, hw''⟩ := hw'
          subst hw''
          replace HB := Lib.hid (below_then HB.out hb3)
          clear hb3 HGT k3 q3
          go_wp2
          go_roundw
          case measure => simp [intOf]; omega
          case rel => exact ⟨t + 1, by go_num, by omega, HB.out⟩
        | false =>
          rw [gain_no htn hmt] at HGT
          clear hcm hgp hmt
          go_wp2_with fail
          refine wp_region_later mixed (by kernel_rfl) ?_
          repeat (go_big_quiet_step (exact Later.calls (HGT.out _)))
          refine wpQuiet_nil ?_
          intro _ hw'
          obtain ⟨⟨w3, hb3⟩, hw''⟩ := hw'
          subst hw''
          replace HB := Lib.hid (below_then HB.out hb3)
          clear hb3 HGT k3 q3
          go_wp2
          go_roundw
          case measure => simp [intOf]; omega
          case rel => exact ⟨t + 1, by go_num, by omega, HB.out⟩
      · obtain rfl : n = t := by omega
        have HOT := Lib.hid (HO.out _ HB.out)
        clear HO HG HN HL
        go_wp2_with fail
        refine HOT.out.mono ?_
        rintro e w3 ⟨Q, m, rfl, hm, _, hin, hb⟩
        have hm0 : 0 < m := by rw [hm]; exact HN0.out
        obtain ⟨z0, _⟩ := hin 0 hm0
        dsimp only at z0
        rw [H5.out] at z0
        have hm0' : (0 : Int) < m := by omega
        replace HB := Lib.hid (below_then HB.out hb)
        clear hb HOT hin hm
        go_wp2
        go_ret
        exact ⟨by first | rfl | simp, HB.out⟩

theorem own : ownKnob Try.prog.godebug = none := by kernel_rfl
theorem laid : laidOutB Try.prog = true := by kernel_rfl

set_option maxRecDepth 100000 in
theorem lifted (os : Os) (started : os.Started) (H : Type) (enc : TypeId × Value → H) :
    ReturnsInHanded {} Try.checked os 6 .any (Rows.victimLeastSpec.pre6 enc Try.prog Try.f6 Rows.victimLeastRow.domain false) (Rows.victimLeastSpec.post enc Try.prog Try.f6 false true false false) := by
  refine returnsInHanded_of_change (C := Try.checked) own started (by kernel_rfl) Try.func6
    (ChangeSpec.witness6 (enc := enc) (C := Try.checked) false ⟨#[], #[.slice none 0 0], []⟩ 8 (by kernel_rfl) (by kernel_rfl) (by kernel_rfl) (by kernel_rfl)) ?_
  intro W base args ds gs before hval0 hW _ _
  have hval : ∀ (j : Nat) t v, Try.f6.params[j]? = some t → args[j]? = some v → Value.okWide Try.prog W .any base t v := hval0
  have hW' := hW
  obtain ⟨p, q, hA0, hV, rfl, hfz, hnd⟩ := hW
  have hA : DataW.TrodAll enc Try.prog W 0 (fun _ => true) true Try.f6.params.toList args.toList ds p := hA0
  rw [Try.params6] at hA hval
  obtain ⟨v0, d0, rfl, rfl, h0⟩ := trodAll_one hA
  obtain ⟨A0, n0, c0, f0, rfl, hnc0, hcm0, hr0⟩ := VictimOps.open_lines (hval 0 22 v0 rfl rfl) h0
  refine (walk A0 n0 c0 f0 W hnc0 hcm0 hr0).mono fun e W' ⟨he, hb⟩ => ?_
  subst he
  exact ⟨_, rfl, Law.post laid (by kernel_rfl) (by kernel_rfl) Try.underlying4 rfl hW' rfl hb⟩

theorem proved : Rows.VictimLeastSaid :=
  OpenClaim.holds_of_wide 6 Try.f6 rfl rfl rfl rfl rfl rfl rfl ⟨rfl, rfl, rfl, rfl, rfl⟩ rfl rfl rfl rfl rfl (by kernel_rfl) Try.func6 (by kernel_rfl)
    (of_decide_eq_true (by kernel_rfl)) (by unfold Func.isWrapper; first | (rw [if_pos (by decide +kernel)]; kernel_rfl) | (rw [if_neg (by decide +kernel)]; exact ⟨rfl, rfl⟩))
    (fun os started H enc _ => lifted os started H enc)

end Go.Proofs.Ytodaigdlfpinhaa.victimLeast
