/-
  VictimMore holds: a line more that may not be moved, behind all, changes nothing; for whatever came in. No condition.
-/
import Derived.Test.YtodaigdlfpinhaaVictimKit
import Derived.Test.YtodaigdlfpinhaaVictimOps
import Derived.Test.YtodaigdlfpinhaaLawKit
import Derived.OpenShut
import Derived.Test.YtodaigdlfpinhaaVictimKit2
import Derived.Deep.CutBlock
import Derived.Deep.DeepCutAuto
import Derived.Deep.RegionHeld3
import Derived.Deep.QuietTactic
namespace Go.Proofs.Ytodaigdlfpinhaa.victimMore
open Go.RowKit Go.ChangeShapes Go.WideShapes Victim VictimPkg VictimLaw Lib
set_option maxRecDepth 4000

set_option maxHeartbeats 8000000 in
theorem walk (A : Option Addr) (n c : Nat) (f : Nat → Ln) (x : Ln) (how : Int) (w : World) (hnc : n ≤ c) (hcm : c ≤ maxLen) (hr : Lines w w.heap.size A n f) (_ : -9223372036854775808 ≤ how) (_ : how ≤ 9223372036854775807) :
    Calls Try.prog 8 #[.slice A n c, .agg (lineC x).toArray, .int .i64 how] w fun e w' => e = .returned (.bool true) ∧ Below w.heap.size w w' := by
  have hnm := Nat.le_trans hnc hcm
  unfold maxLen at hnm
  clear hnc hcm
  obtain ⟨x0, x1, x2, x3, x4⟩ := x
  obtain ⟨a, ha⟩ : ∃ a, a = w.alloc (.cells #[.int .i64 x0, .int .i64 x1, .int .i64 x2, .int .i64 x3, .int .i64 x4] 33) := ⟨_, rfl⟩
  have hwa : Below w.heap.size w a := by rw [ha]; exact (Below.refl _ _).alloc (Nat.le_refl _) _
  have h5 : Five a w.heap.size 33 (.int .i64 x0) (.int .i64 x1) (.int .i64 x2) (.int .i64 x3) (.int .i64 x4) := by rw [ha]; exact Five.new _ _ _ _ _ _ _
  have HA := Lib.hid (awake_any a)
  have HA0 := Lib.hid ha
  have HWA := Lib.hid hwa
  have H5 := Lib.hid h5
  clear ha hwa h5
  unfold lineC
  dsimp only
  by_cases hbig : 300 < n
  · have hbig' : (300 : Int) < n := by omega
    clear hr
    go_enter Try.func8, Try.ntmps8
    go_wp2_with fail
    rw [← HA0.out]
    refine HA.out.mono ?_
    rintro e w1 ⟨rfl, hb⟩
    have HB := Lib.hid (HWA.out.trans (hb.mono HWA.out.size))
    clear hb
    go_wp2
    go_ret
    exact ⟨rfl, HB.out⟩
  have hn : n ≤ 300 := by omega
  have hn' : (n : Int) ≤ 300 := by omega
  have hnb : decide ((300 : Int) < (n : Int)) = false := decide_eq_false (by omega)
  have HR := Lib.hid hr
  clear hr hbig
  have mixed : Try.prog.follows .mixedOrders = true := by kernel_rfl
  go_enter Try.func8, Try.ntmps8
  go_wp2_with fail
  rw [← HA0.out]
  refine HA.out.mono ?_
  rintro e w1 ⟨rfl, hb⟩
  have HB := Lib.hid (HWA.out.trans (hb.mono HWA.out.size))
  have HB5 := Lib.hid (H5.out.below hb)
  clear hb HA HWA H5 HA0
  obtain ⟨b0, b1, b2, b3, b4⟩ := HB5.out.cells
  obtain ⟨z0, z1, z2, z3, z4⟩ := HB5.out.free
  go_upto_block 0 with fail
  go_cut [21] (fun _ wx => ∃ y : Ln, may y = false ∧ Five wx w.heap.size 33 (.int .i64 y.st) (.int .i64 y.wr) (.int .i64 y.gd) (.int .i64 y.vd) (.int .i64 y.rm) ∧ Below w.heap.size w wx)
  case first =>
    have HBS := Lib.hid (fun o v => HB.out.setCell (p := ⟨w.heap.size, o, none⟩) (Nat.le_refl _) v)
    rcases Decidable.em (how = 0) with rfl | h0
    · go_wp2_with fail
      go_meet
      exact ⟨⟨1, x1, x2, x3, x4⟩, by simp [may], by have h := HB5.out; unfold Five at h ⊢; simp [World.setCell, Array.getElem?_modify, h], HBS.out _ _⟩
    rcases Decidable.em (how = 1) with rfl | h1
    · go_wp2_with fail
      go_meet
      exact ⟨⟨x0, x1, x2, x4, x4⟩, by simp [may], by have h := HB5.out; unfold Five at h ⊢; simp [World.setCell, Array.getElem?_modify, h], HBS.out _ _⟩
    rcases Decidable.em (how = 2) with rfl | h2
    · go_wp2_with fail
      go_meet
      exact ⟨⟨x0, x1, x2, x3, 8193⟩, by simp [may], by have h := HB5.out; unfold Five at h ⊢; simp [World.setCell, Array.getElem?_modify, h], HBS.out _ _⟩
    · have d0 : (how == 0) = false := by simpa using h0
      have d1 : (how == 1) = false := by simpa using h1
      have d2 : (how == 2) = false := by simpa using h2
      clear h0 h1 h2
      go_wp2_with fail
      go_meet
      exact ⟨⟨x0, x1, x2, -1, x4⟩, by simp [may], by have h := HB5.out; unfold Five at h ⊢; simp [World.setCell, Array.getElem?_modify, h], HBS.out _ _⟩
  case rest =>
    clear HB HB5 b0 b1 b2 b3 b4 z0 z1 z2 z3 z4
    obtain ⟨y, hmy, hby, hbw⟩ := hcut
    rename World => w2
    have HB := Lib.hid hbw
    have HMY := Lib.hid hmy
    have HBY := Lib.hid hby
    have HROWS := Lib.hid ((rows_of_lines (HR.out.keep hbw)).more hbw.size)
    have HLE : Hid (([] : List (List Value)).length + n ≤ 1000000) := Lib.hid (by simp; omega)
    have HLE2 : Hid (([] ++ lrows f n : List (List Value)).length + 1 ≤ 1000000) := Lib.hid (by simp [lrows_len]; omega)
    have HW := Lib.hid hby.cells
    obtain ⟨b0, b1, b2, b3, b4⟩ := hby.cells
    have HWK := Lib.hid (fun (w' : World) (hb : Below w2.heap.size w2 w') => (hby.below hb).cells)
    clear hmy hby hbw
    go_upto_region 12 with fail
    go_cut [8] (fun v wx => ∃ (A3 : Option Addr) (c3 : Nat), v = .slice A3 (n + 1) c3 ∧ Lines wx wx.heap.size A3 (n + 1) (plus f n y) ∧ Below w2.heap.size w2 wx)
    case first =>
      go_region_held3 (fun w' => w'.cell? ⟨w.heap.size, 0, none⟩ = some (.int .i64 y.st) ∧ w'.cell? ⟨w.heap.size, 1, none⟩ = some (.int .i64 y.wr) ∧ w'.cell? ⟨w.heap.size, 2, none⟩ = some (.int .i64 y.gd) ∧ w'.cell? ⟨w.heap.size, 3, none⟩ = some (.int .i64 y.vd) ∧ w'.cell? ⟨w.heap.size, 4, none⟩ = some (.int .i64 y.rm))
        (first
          | exact HW.out
          | exact HWK.out _ hB3
          | exact HWK.out _ hB2
          | exact HWK.out _ (hB2.alloc hz2 _)
          | exact HWK.out _ ((Below.refl _ _).alloc (Nat.le_refl _) _)
          | exact HWK.out _ (((Below.refl _ _).alloc (Nat.le_refl _) _).alloc (by simp) _)
          | go_keep)
        (first
          | (refine step_append_rows _ (o := ⟨some 34, _, _, _, _, _⟩) (by rfl) _ _ _ (by rfl) w2.heap.size 33 5 40 (by omega) (by omega) Try.underlying22 infoLine (.slice (some ⟨w2.heap.size, 0, none⟩) 0 0) [] (by rfl) (by exact (ownR_new0 w2 _ _).keep (fun _ _ => rfl)) _ A n c (lrows f n) (by rfl) (by exact HROWS.out.keep (((Below.refl _ _).alloc (Nat.le_refl _) _).drew)) HLE.out (by simp) ?_; intro v3 w3 ho2 hg2; have hB2 : Below w2.heap.size w2 w3 := (((Below.refl _ w2).alloc (Nat.le_refl _) _).drew).grown hg2 (by simp) (fun k hk => by simp [Value.ownBlock] at hk; omega); have hz2 := hB2.size; clear hg2)
          | (refine step_append_rows _ (o := ⟨some 34, _, _, _, _, _⟩) (by rfl) _ _ _ (by rfl) w2.heap.size 33 5 40 (by omega) (by omega) Try.underlying22 infoLine (.slice (some ⟨w2.heap.size, 0, none⟩) 0 0) [] (by rfl) (by exact ((ownR_new0 w2 _ _).alloc _).keep (fun _ _ => rfl)) _ A n c (lrows f n) (by rfl) (by exact HROWS.out.keep ((((Below.refl _ _).alloc (Nat.le_refl _) _).alloc (by simp) _).drew)) HLE.out (by simp; omega) ?_; intro v3 w3 ho2 hg2; have hB2 : Below w2.heap.size w2 w3 := ((((Below.refl _ w2).alloc (Nat.le_refl _) _).alloc (by simp) _).drew).grown hg2 (by simp; omega) (fun k hk => by simp [Value.ownBlock] at hk; omega); have hz2 := hB2.size; have hq := two_keptR hg2 (by simp [Value.ownBlock]); clear hg2)
          | (refine step_append_rows _ (o := ⟨some 34, _, _, _, _, _⟩) (by rfl) _ _ _ (by rfl) w2.heap.size 33 5 40 (by omega) (by omega) Try.underlying22 infoLine (.slice (some ⟨w2.heap.size + 1, 0, none⟩) 0 0) [] (by rfl) (by exact (ownR_later w2 _ _ _).keep (fun _ _ => rfl)) _ A n c (lrows f n) (by rfl) (by exact HROWS.out.keep ((((Below.refl _ _).alloc (Nat.le_refl _) _).alloc (by simp) _).drew)) HLE.out (by simp; omega) ?_; intro v3 w3 ho2 hg2; have hB2 : Below w2.heap.size w2 w3 := ((((Below.refl _ w2).alloc (Nat.le_refl _) _).alloc (by simp) _).drew).grown hg2 (by simp; omega) (fun k hk => by simp [Value.ownBlock] at hk; omega); have hz2 := hB2.size; have hq := two_keptR' hg2 (by simp [Value.ownBlock]); clear hg2)
          | (refine step_append_rows _ (o := ⟨some 37, _, _, _, _, _⟩) (by rfl) _ _ _ (by rfl) w2.heap.size 33 5 40 (by omega) (by omega) Try.underlying22 infoLine v3 ([] ++ lrows f n) (by rfl) (by exact ho2.alloc _) _ (some ⟨w3.heap.size, 0, none⟩) 1 1 [lineC y] (by rfl) (by exact rows_block (heap_alloc_new w3 _) (lineC_one y)) HLE2.out (by simp; omega) ?_; intro v4 w4 ho3 hg3; have hB3 : Below w2.heap.size w2 w4 := (hB2.alloc hz2 _).grown hg3 (by simp; omega) ho2.block; have hz3 := hB3.size; clear hg3)
          | (refine step_append_rows _ (o := ⟨some 37, _, _, _, _, _⟩) (by rfl) _ _ _ (by rfl) w2.heap.size 33 5 40 (by omega) (by omega) Try.underlying22 infoLine v3 ([] ++ lrows f n) (by rfl) (by exact ho2) _ _ 1 1 [lineC y] (by rfl) (by exact rows_block hq (lineC_one y)) HLE2.out hz2 ?_; intro v4 w4 ho3 hg3; have hB3 : Below w2.heap.size w2 w4 := hB2.grown hg3 hz2 ho2.block; have hz3 := hB3.size; clear hg3))
      all_goals
        go_wp2_with fail
        go_meet
        rw [lrows_plus] at ho3
        obtain ⟨A3, c3, rfl, hl3⟩ := own_lines ho3
        exact ⟨A3, c3, rfl, hl3, hB3⟩
    case rest =>
      obtain ⟨A3, c3, rfl, hl3, hb3⟩ := hcut
      rename World => wd
      have hbd := HB.out.trans (hb3.mono HB.out.size)
      have HBD := Lib.hid hbd
      obtain ⟨e1, e2, e3, e4⟩ := plus_same (f := f) (n := n) HMY.out
      have hrl := rks_len f n
      have HP := Lib.hid (fun W (hW : Below w.heap.size w W) => Pick_any (HR.out.keep hW) hW.size (by omega) c)
      have HO := Lib.hid (fun W (hW : Below w.heap.size w W) => Order_any (HR.out.keep hW) hW.size (by omega) c)
      have HQ := Lib.hid (fun W (hW : Below wd.heap.size wd W) => Pick_any (hl3.keep hW) hW.size (by omega) c3)
      have HU := Lib.hid (fun W (hW : Below wd.heap.size wd W) => Order_any (hl3.keep hW) hW.size (by omega) c3)
      have HG := Lib.hid (fun W (hW : Below wd.heap.size wd W) => Gain_any (hl3.keep hW) hW.size (n : Int) c3)
      rw [e2] at HQ
      rw [e1, e3] at HU
      rw [e4] at HG
      generalize (pick f n).1 = px at *
      generalize (pick f n).2 = pb at *
      generalize idx f n = zs at *
      generalize (rks f n).length = r at *
      have HD : Hid (Below wd.heap.size wd wd) := Lib.hid (Below.refl _ _)
      clear hl3 hb3 hbd e1 e2 e3 e4 HB HMY HBY HROWS HW HWK b0 b1 b2 b3 b4 HLE HLE2 HR
      have HWB := Lib.hid (fun W (hW : Below wd.heap.size wd W) => HBD.out.trans (hW.mono HBD.out.size))
      go_wp2_with fail
      refine (HP.out _ (HWB.out _ HD.out)).mono ?_
      rintro e v1 ⟨rfl, hb⟩
      replace HD := Lib.hid (below_then HD.out hb)
      clear hb HP
      go_wp2_with fail
      refine (HQ.out _ HD.out).mono ?_
      rintro e v2 ⟨rfl, hb⟩
      replace HD := Lib.hid (below_then HD.out hb)
      clear hb HQ
      go_wp2_with fail
      refine (HO.out _ (HWB.out _ HD.out)).mono ?_
      rintro e v3 ⟨Q, m, rfl, rfl, _, hin, hb⟩
      replace HD := Lib.hid (below_then HD.out hb)
      have HIN := Lib.hid hin
      clear hb HO hin
      go_wp2_with fail
      refine (HU.out _ HD.out).mono ?_
      rintro e v4 ⟨Q', m', rfl, rfl, _, hin, hb⟩
      have HS := Lib.hid (same_ints (c := m') (c' := m') (by omega) (ints_keep HIN.out hb) hin)
      replace HD := Lib.hid (below_then HD.out hb)
      clear hb HU hin HIN
      go_wp2_with fail
      refine HS.out.mono ?_
      rintro e v5 ⟨rfl, hb⟩
      replace HD := Lib.hid (below_then HD.out hb)
      clear hb HS
      have d0 : (px == px) = true := by simp
      cases pb with
      | false =>
        go_wp2_with fail
        refine (HG.out _ HD.out).mono ?_
        rintro e v6 ⟨rfl, hb⟩
        replace HD := Lib.hid (HWB.out _ (below_then HD.out hb))
        clear hb HG
        go_wp2
        go_ret
        exact ⟨by first | rfl | simp, HD.out⟩
      | true =>
        go_wp2_with fail
        refine (HG.out _ HD.out).mono ?_
        rintro e v6 ⟨rfl, hb⟩
        replace HD := Lib.hid (HWB.out _ (below_then HD.out hb))
        clear hb HG
        go_wp2
        go_ret
        exact ⟨by first | rfl | simp, HD.out⟩

theorem own : ownKnob Try.prog.godebug = none := by kernel_rfl
theorem laid : laidOutB Try.prog = true := by kernel_rfl

set_option maxRecDepth 100000 in
theorem lifted (os : Os) (started : os.Started) (H : Type) (enc : TypeId × Value → H) :
    ReturnsInHanded {} Try.checked os 8 .any (Rows.victimMoreSpec.pre6 enc Try.prog Try.f8 Rows.victimMoreRow.domain false) (Rows.victimMoreSpec.post enc Try.prog Try.f8 false true false false) := by
  refine returnsInHanded_of_change (C := Try.checked) own started (by kernel_rfl) Try.func8
    (ChangeSpec.witness6 (enc := enc) (C := Try.checked) false ⟨#[], #[.slice none 0 0, .agg #[.int .i64 0, .int .i64 0, .int .i64 0, .int .i64 0, .int .i64 0], .int .i64 0], []⟩ 8 (by kernel_rfl) (by kernel_rfl) (by kernel_rfl) (by kernel_rfl)) ?_
  intro W base args ds gs before hval0 hW _ _
  have hval : ∀ (j : Nat) t v, Try.f8.params[j]? = some t → args[j]? = some v → Value.okWide Try.prog W .any base t v := hval0
  have hW' := hW
  obtain ⟨p, q, hA0, hV, rfl, hfz, hnd⟩ := hW
  have hA : DataW.TrodAll enc Try.prog W 0 (fun _ => true) true Try.f8.params.toList args.toList ds p := hA0
  rw [Try.params8] at hA hval
  obtain ⟨v0, v1, v2, d0, d1, d2, p0, p1, p2, rfl, rfl, rfl, h0, h1, h2⟩ := trodAll_three hA
  obtain ⟨A0, n0, c0, f0, rfl, hnc0, hcm0, hr0⟩ := VictimOps.open_lines (hval 0 22 v0 rfl rfl) h0
  obtain ⟨x1, rfl⟩ := VictimOps.open_line (hval 1 33 v1 rfl rfl) h1
  obtain ⟨a2, rfl, rfl, rfl, wf2⟩ := open_int Try.underlying3 (hval 2 3 v2 rfl rfl) h2
  have hb2 : -9223372036854775808 ≤ a2 ∧ a2 ≤ 9223372036854775807 := by simpa [Lit.wf, IntKind.min, IntKind.max, IntKind.signed, IntKind.bits] using wf2
  refine (walk A0 n0 c0 f0 x1 a2 W hnc0 hcm0 hr0 hb2.1 hb2.2).mono fun e W' ⟨he, hb⟩ => ?_
  subst he
  exact ⟨_, rfl, Law.post laid (by kernel_rfl) (by kernel_rfl) Try.underlying4 rfl hW' rfl hb⟩

theorem proved : Rows.VictimMoreSaid :=
  OpenClaim.holds_of_wide 8 Try.f8 rfl rfl rfl rfl rfl rfl rfl ⟨rfl, rfl, rfl, rfl, rfl⟩ rfl rfl rfl rfl rfl (by kernel_rfl) Try.func8 (by kernel_rfl)
    (of_decide_eq_true (by kernel_rfl)) (by unfold Func.isWrapper; first | (rw [if_pos (by decide +kernel)]; kernel_rfl) | (rw [if_neg (by decide +kernel)]; exact ⟨rfl, rfl⟩))
    (fun os started H enc _ => lifted os started H enc)

end Go.Proofs.Ytodaigdlfpinhaa.victimMore
