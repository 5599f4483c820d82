/-
  PagePads holds: behind its slots a page has pads alone, which say nothing; for whatever slots came in. No condition.
-/
import Derived.Test.YteonjdigcecceaaPageKit
import Derived.Test.YteonjdigcecceaaPageOps
import Derived.OpenShut
import Derived.BigQuiet
import Derived.Deep.DeepCutAuto
import Derived.Deep.RegionHeld3
namespace Go.Proofs.Yteonjdigcecceaa.pagePads
open Go.RowKit Go.ChangeShapes Go.WideShapes Page PagePkg PageLaw Lib
set_option maxRecDepth 4000

set_option maxHeartbeats 8000000 in
theorem walk (n : Int) (A : Option Addr) (m c : Nat) (ss : List Sl) (w : World) (_hn0 : -9223372036854775808 ≤ n) (_hn1 : n ≤ 9223372036854775807) (hnc : m ≤ c) (hcm : c ≤ maxLen) (hr : Slots w w.heap.size A m ss) :
    Calls Try.prog 8 #[.int .i64 n, .slice A m c] w fun e w' => e = .returned (.bool true) ∧ Below w.heap.size w w' := by
  have HA := Lib.hid (awake_any w)
  have HSL := Lib.hid (fun X (hX : Below w.heap.size w X) => slim_any A m c ss X (hr.below hX) ⟨hnc, hcm⟩)
  have HBU := Lib.hid (fun X (hX : Below w.heap.size w X) => Build_any n A m c ss X (hr.below hX))
  have HR := Lib.hid hr
  have HM := Lib.hid hr.len
  clear hr hnc hcm
  by_cases hs : Slim ss
  · simp only [decide_eq_true hs] at HSL
    have HSM := Lib.hid hs
    clear hs
    by_cases hg : fits n m ∧ ∀ p ∈ ss.map Sl.pc, p.Ok
    · obtain ⟨hf, hok⟩ := hg
      obtain ⟨N, rfl⟩ : ∃ N : Nat, n = (N : Int) := ⟨n.toNat, by unfold fits at hf; omega⟩
      have hm1 : 1 ≤ m := hf.1
      have hmN : m ≤ N := by have := hf.2.1; omega
      have hN4 : N ≤ 4 := by have := hf.2.2; omega
      have HF := Lib.hid (show fits (N : Int) (ss.map Sl.pc).length by rw [List.length_map, HM.out]; exact hf)
      have HOK := Lib.hid hok
      clear hf hok
      go_enter Try.func8, Try.ntmps8
      go_wp2_with fail
      refine HA.out.mono ?_
      rintro e w1 ⟨rfl, hb⟩
      have HB := Lib.hid hb
      clear hb HA
      go_wp2_with fail
      refine (HSL.out w1 HB.out).mono ?_
      rintro e w2 ⟨rfl, hw⟩
      subst w2
      clear HSL
      go_wp2_with fail
      refine (HBU.out w1 HB.out).mono ?_
      intro e w2 hbt
      obtain ⟨A1, c1, A2, c2, qs, rfl, h1, h2, hpg, htwo, hc1, hc2, hm1', hm2', hb⟩ := built_yes hbt HF.out HOK.out
      have HB2 := Lib.hid (below_on HB.out hb HB.out.size)
      have HD := Lib.hid h1
      have HO := Lib.hid h2
      have HPG := Lib.hid hpg
      have HTWO := Lib.hid htwo
      clear hbt h1 h2 hpg htwo hb HBU
      clear HPG HTWO
      go_wp2
      go_loopw [10] (fun i wr => ∃ j : Nat, i = .int .i64 (j : Int) ∧ m ≤ j ∧ j ≤ N ∧ Below w2.heap.size w2 wr) (fun i _ => N - (intOf i).toNat)
      case atStart => exact ⟨m, rfl, Nat.le_refl _, hmN, Below.refl _ _⟩
      case round =>
        obtain ⟨j, rfl, hmj, hj, hbw⟩ := hrel
        have HBW := Lib.hid hbw
        have HBA := Lib.hid (below_on HB2.out hbw HB2.out.size)
        clear hbw
        by_cases hjN : j < N
        · have hjN2 : (j : Int) < (N : Int) := by omega
          have hj0 : (0 : Int) ≤ (j : Int) := by omega
          have hfp := fill_pad (ss := ss) (N := N) (i := j) (by rw [HM.out]; exact hmj) hjN
          obtain ⟨b1, off1, Ad, cd, e1, hb1, k1, hdc, hdm, hbd⟩ := (HD.out.keep HBW.out).at_ j zeros (by rw [List.getElem?_map, hfp]; rfl)
          obtain ⟨b2, off2, Ao, co, e2, hb2, k2, _, _, hbo⟩ := (HO.out.keep HBW.out).at_ j pad.code (by rw [List.getElem?_map, hfp]; rfl)
          subst e1 e2
          have hun := fun X (hX : Below wr.heap.size wr X) => OobPkg.Unpack_any Ao Ad pad.code.length co zeros.length cd pad.code zeros X (bytes_more (bytes_keep hbo (hX.mono HBW.out.size)) (Nat.le_trans HBW.out.size hX.size)) (bytes_more (bytes_keep hbd (hX.mono HBW.out.size)) (Nat.le_trans HBW.out.size hX.size))
          have hu : Oob.unp pad.code zeros = (3, 0, 0, 0) := Oob.unp_full pad_ok.1 rfl
          rw [hu] at hun
          dsimp only at hun
          rw [zeros_len, Pc.code_len] at hun
          rw [zeros_len] at k1
          rw [Pc.code_len] at k2
          have HUN := Lib.hid hun
          have HBD := Lib.hid hbd
          clear hun hbd hbo hu hfp
          go_upto_region 13 with fail
          go_cut [11, 12] (fun p e wx => ∃ g, p = .pointer (some ⟨g, 0, none⟩) ∧ e = .int .i64 0 ∧ OobPkg.Three 44 wx g 3 0 0 ∧ wr.heap.size ≤ g ∧ Below wr.heap.size wr wx)
          case first =>
            have HKP := Lib.hid (fun (X : World) (hX : Below wr.heap.size wr X) => show X.cell? ⟨b2, off2 + j, none⟩ = some (.slice Ao 17 co) ∧ X.cell? ⟨b1, off1 + j, none⟩ = some (.slice Ad 16 cd) from ⟨(hX.cell (p := ⟨b2, off2 + j, none⟩) (Nat.lt_of_lt_of_le hb2 HBW.out.size)).trans k2, (hX.cell (p := ⟨b1, off1 + j, none⟩) (Nat.lt_of_lt_of_le hb1 HBW.out.size)).trans k1⟩)
            go_region_held3 (fun w' => w'.cell? ⟨b2, off2 + j, none⟩ = some (.slice Ao 17 co) ∧ w'.cell? ⟨b1, off1 + j, none⟩ = some (.slice Ad 16 cd))
              (first | exact ⟨k2, k1⟩ | exact HKP.out _ ((Below.refl _ _).alloc (Nat.le_refl _) _).drew | exact HKP.out _ HB4.out | exact HKP.out _ (HB4.out.alloc HB4.out.size _) | exact HKP.out _ (set_three HB4.out (Nat.le_refl _) _ _ _))
              (first
                | (go_at_call 20; refine (HUN.out _ (by exact (Below.refl _ _).drew)).mono ?_; rintro e w4 ⟨rfl, hb4⟩; have HB4 : Hid (Below wr.heap.size wr w4) := Lib.hid (below_on (Below.refl _ _).drew hb4 (Nat.le_refl _)))
                | (go_at_call 20; refine (HUN.out _ (by exact ((Below.refl _ _).alloc (Nat.le_refl _) _).drew)).mono ?_; rintro e w4 ⟨rfl, hb4⟩
                   have HB4 : Hid (Below wr.heap.size wr w4) := Lib.hid (below_on (((Below.refl _ _).alloc (Nat.le_refl _) _).drew) hb4 (by simp))
                   have HT4 : Hid (OobPkg.Three 44 w4 wr.heap.size 0 0 0) := Lib.hid ((hb4.block wr.heap.size (by simp)).trans (heap_alloc_new wr _))
                   obtain ⟨q0, q1, q2, q3, q4, q5⟩ := three_cells HT4.out))
            all_goals
              go_wp2_with fail
              go_meet
              first
                | exact ⟨wr.heap.size, rfl, rfl, three_set HT4.out 3 0 0, Nat.le_refl _, set_three HB4.out (Nat.le_refl _) _ _ _⟩
                | exact ⟨w4.heap.size, rfl, rfl, OobPkg.Three.new _ w4 3 0 0, HB4.out.size, HB4.out.alloc HB4.out.size _⟩
          case rest =>
            obtain ⟨g, rfl, rfl, h3, hg, hb⟩ := hcut
            obtain ⟨g0, g1, g2, _, _, _⟩ := three_cells h3
            have kd : wc.cell? ⟨b1, off1 + j, none⟩ = some (.slice Ad 16 cd) := (hb.cell (p := ⟨b1, off1 + j, none⟩) (Nat.lt_of_lt_of_le hb1 HBW.out.size)).trans k1
            have hbdc : Bytes wc w2.heap.size Ad 16 zeros := bytes_keep HBD.out (hb.mono HBW.out.size)
            have HBC := Lib.hid (below_on HBW.out hb HBW.out.size)
            have hwc : w2.heap.size ≤ wc.heap.size := HBC.out.size
            have hmk := fun w => made_zeros w
            clear hb h3 HUN k1 k2 HBD
            go_upto_region 14 with fail
            have HK := Lib.hid (fun (X : World) (hX : Below wc.heap.size wc X) => show X.cell? ⟨g, 0, none⟩ = some (.int .i64 3) ∧ X.cell? ⟨g, 1, none⟩ = some (.int .i64 0) ∧ X.cell? ⟨g, 2, none⟩ = some (.int .i64 0) ∧ X.cell? ⟨b1, off1 + j, none⟩ = some (.slice Ad 16 cd) ∧ (convert 40 9 (.slice Ad 16 cd)).run Try.prog X = .ok (.string (str zeros)) X from
              ⟨hold_on hX g0, hold_on hX g1, hold_on hX g2, hold_on hX kd, run_str X 40 9 5 Try.underlying40 Try.underlying5 Try.underlying9 (bytes_keep hbdc (hX.mono hwc))⟩)
            have hq := str_eq (rfl : zeros = zeros)
            go_cut [74] (fun v wx => v = .bool false ∧ Below wc.heap.size wc wx)
            case first =>
              have hs2 : (convert 40 9 (.slice (some ⟨wc.heap.size, 0, none⟩) 16 16)).run Try.prog (wc.alloc (.cells (zeros.map cellOf).toArray 5)).drew = .ok (.string (str zeros)) (wc.alloc (.cells (zeros.map cellOf).toArray 5)).drew := by
                obtain ⟨A, c, e, h2⟩ := (own_zeros wc).reads
                injection e with e _ _
                subst e
                exact run_strs (P := Try.prog) (wc.alloc (.cells (zeros.map cellOf).toArray 5)) 40 9 5 Try.underlying40 Try.underlying5 Try.underlying9 (c := 16) h2 1
              obtain ⟨g3, g4, g5, g6, hs1⟩ := HK.out _ (Below.refl _ _).drew
              obtain ⟨g3', g4', g5', g6', hs1'⟩ := HK.out _ ((Below.refl _ _).alloc (Nat.le_refl _) (.cells (zeros.map cellOf).toArray 5)).drew
              go_region
              all_goals
                go_wp2_with fail
                go_meet
                exact ⟨rfl, ((Below.refl _ _).alloc (Nat.le_refl _) _).drew⟩
            case rest =>
              obtain ⟨rfl, hb⟩ := hcut
              rename World => wd
              have HBD := Lib.hid (below_on HBC.out hb HBC.out.size)
              clear hb
              go_wp2
              go_roundw
              case measure => simp [intOf]; omega
              case rel => exact ⟨j + 1, by go_num, by omega, by omega, HBD.out⟩
        · obtain rfl : j = N := by omega
          obtain ⟨d0, hd0⟩ : ∃ d0, ((fill j (ss.map Sl.pc)).map Pc.d)[0]? = some d0 := ⟨_, List.getElem?_eq_getElem (by rw [HD.out.len]; omega)⟩
          obtain ⟨o0, ho0⟩ : ∃ o0, ((fill j (ss.map Sl.pc)).map Pc.code)[0]? = some o0 := ⟨_, List.getElem?_eq_getElem (by rw [HO.out.len]; omega)⟩
          obtain ⟨b1, off1, _, _, e1, _⟩ := HD.out.at_ 0 d0 hd0
          obtain ⟨b2, off2, _, _, e2, _⟩ := HO.out.at_ 0 o0 ho0
          clear hd0 ho0
          subst e1 e2
          have HRD := Lib.hid (Read_any _ _ (j - m) (c1 - m) (j - m) (c2 - m) _ _ wr.drew (bys_if (c := c1) (HD.out.below HBW.out) hmj hc1) (bys_if (c := c2) (HO.out.below HBW.out) hmj hc2) (by omega))
          rw [all_pads (ss := ss) (N := j) (m := m) (by rw [HM.out]; exact Nat.le_refl _)] at HRD
          have hm0 : (0 : Int) ≤ (m : Int) := by omega
          have hmj2 : (m : Int) ≤ (j : Int) := by omega
          clear HD HO
          obtain ⟨P1, hP1⟩ : ∃ P, (if c1 = m then some ⟨b1, off1, none⟩ else some ⟨b1, off1 + m, none⟩ : Option Addr) = P := ⟨_, rfl⟩
          obtain ⟨P2, hP2⟩ : ∃ P, (if c2 = m then some ⟨b2, off2, none⟩ else some ⟨b2, off2 + m, none⟩ : Option Addr) = P := ⟨_, rfl⟩
          rw [hP1, hP2] at HRD
          go_upto_region 16 with fail
          go_region_held3 (fun _ => True) (trivial)
            (first | (go_at_call 18; refine HRD.out.mono ?_; rintro e w4 ⟨v, rs, rfl, hh, hkey, hb⟩
                      have hl : rs.length = 0 := by have := congrArg List.length hkey; simpa using this
                      obtain ⟨A6, c6, hv, _⟩ := hh.form
                      rw [hl] at hv
                      subst hv
                      have HB4 := Lib.hid (below_on HBA.out.drew hb HBA.out.size)
                      clear hh hkey hb hl))
          go_wp2
          go_ret
          exact ⟨rfl, HB4.out⟩
    · have HNO := Lib.hid (show ¬ (fits n (ss.map Sl.pc).length ∧ ∀ p ∈ ss.map Sl.pc, p.Ok) by rw [List.length_map, HM.out]; exact hg)
      clear hg
      go_enter Try.func8, Try.ntmps8
      go_wp2_with fail
      refine HA.out.mono ?_
      rintro e w1 ⟨rfl, hb⟩
      have HB := Lib.hid hb
      clear hb HA
      go_wp2_with fail
      refine (HSL.out w1 HB.out).mono ?_
      rintro e w2 ⟨rfl, hw⟩
      subst w2
      clear HSL
      go_wp2_with fail
      refine (HBU.out w1 HB.out).mono ?_
      intro e w2 hbt
      obtain ⟨rfl, hb⟩ := built_no hbt HNO.out
      have HB2 := Lib.hid (below_on HB.out hb HB.out.size)
      clear hbt hb HBU
      go_wp2
      go_ret
      exact ⟨rfl, HB2.out⟩
  · simp only [decide_eq_false hs] at HSL
    clear hs
    go_enter Try.func8, Try.ntmps8
    go_wp2_with fail
    refine HA.out.mono ?_
    rintro e w1 ⟨rfl, hb⟩
    have HB := Lib.hid hb
    clear hb HA
    go_wp2_with fail
    refine (HSL.out w1 HB.out).mono ?_
    rintro e w2 ⟨rfl, hw⟩
    subst w2
    clear HSL
    go_wp2
    go_ret
    exact ⟨rfl, HB.out⟩

theorem own : ownKnob Try.prog.godebug = none := by kernel_rfl
theorem laid : laidOutB Try.prog = true := by kernel_rfl

set_option maxRecDepth 100000 in
theorem lifted (os : Os) (started : os.Started) (H : Type) (enc : TypeId × Value → H) :
    ReturnsInHanded {} Try.checked os 8 .any (Rows.pagePadsSpec.pre6 enc Try.prog Try.f8 Rows.pagePadsRow.domain false) (Rows.pagePadsSpec.post enc Try.prog Try.f8 false true false false) := by
  refine returnsInHanded_of_change (C := Try.checked) own started (by kernel_rfl) Try.func8
    (ChangeSpec.witness6 (enc := enc) (C := Try.checked) false ⟨#[], #[.int .i64 0, .slice none 0 0], []⟩ 8 (by kernel_rfl) (by kernel_rfl) (by kernel_rfl) (by kernel_rfl)) ?_
  intro W base args ds gs before hval0 hW _ _
  have hval : ∀ (j : Nat) t v, Try.f8.params[j]? = some t → args[j]? = some v → Value.okWide Try.prog W .any base t v := hval0
  have hW' := hW
  obtain ⟨p, q, hA0, hV, rfl, hfz, hnd⟩ := hW
  have hA : DataW.TrodAll enc Try.prog W 0 (fun _ => true) true Try.f8.params.toList args.toList ds p := hA0
  rw [Try.params8] at hA hval
  obtain ⟨v0, v1, d0, d1, p0, p1, rfl, rfl, rfl, h0, h1⟩ := trodAll_two hA
  obtain ⟨a0, rfl, rfl, rfl, wf0⟩ := open_int Try.underlying3 (hval 0 3 v0 rfl rfl) h0
  have hb0 : -9223372036854775808 ≤ a0 ∧ a0 ≤ 9223372036854775807 := by simpa [Lit.wf, IntKind.min, IntKind.max, IntKind.signed, IntKind.bits] using wf0
  obtain ⟨A1, n1, c1, l1, rfl, hnc1, hcm1, hr1⟩ := PageOps.open_slots (hval 1 22 v1 rfl rfl) h1
  refine (walk a0 A1 n1 c1 l1 W hb0.1 hb0.2 hnc1 hcm1 hr1).mono fun e W' ⟨he, hb⟩ => ?_
  subst he
  exact ⟨_, rfl, Law.post laid (by kernel_rfl) (by kernel_rfl) Try.underlying4 rfl hW' rfl hb⟩

theorem proved : Rows.PagePadsSaid :=
  OpenClaim.holds_of_wide 8 Try.f8 rfl rfl rfl rfl rfl rfl rfl ⟨rfl, rfl, rfl, rfl, rfl⟩ rfl rfl rfl rfl rfl (by kernel_rfl) Try.func8 (by kernel_rfl)
    (of_decide_eq_true (by kernel_rfl)) (by unfold Func.isWrapper; first | (rw [if_pos (by decide +kernel)]; kernel_rfl) | (rw [if_neg (by decide +kernel)]; exact ⟨rfl, rfl⟩))
    (fun os started H enc _ => lifted os started H enc)

end Go.Proofs.Yteonjdigcecceaa.pagePads
