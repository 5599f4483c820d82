/-
  L2pPlays holds: the map does as the document's, call for call; for every geometry, number of sectors and all calls. No condition.
-/
import Derived.Test.YtpheblblkkclbaaL2pKit
import Derived.Test.YtpheblblkkclbaaLawKit
import Derived.OpenShut
import Derived.Test.YtpheblblkkclbaaL2pDoes
import Derived.Test.YtpheblblkkclbaaL2pOps
namespace Go.Proofs.Ytpheblblkkclbaa.l2pPlays
open Go.RowKit Go.ChangeShapes Go.WideShapes L2p L2pPkg L2pLaw
open Nand (Shape)
set_option maxRecDepth 4000

set_option maxHeartbeats 4000000 in
theorem walk (c l k p s num : Int) (A : Option Addr) (m cp : Nat) (w : World) (hb0 : -9223372036854775808 ≤ num) (hb1 : num ≤ 9223372036854775807) (hmc : m ≤ cp) (hcm : cp ≤ maxLen) (hr : L2pOps.Ops w w.heap.size A m) :
    Calls Try.prog 4 #[.agg #[.int .i64 c, .int .i64 l, .int .i64 k, .int .i64 p, .int .i64 s], .int .i64 num, .slice A m cp] w fun e w' => e = .returned (.bool true) ∧ Below w.heap.size w w' := by
  have HOPS := Lib.hid hr
  have hn := Nat.le_trans hmc hcm
  clear hr hmc hcm
  unfold maxLen at hn
  by_cases hok : Geom.ok c l k p s
  rotate_left
  · have HN := Lib.hid (fun w => both_no c l k p s num (.inl hok) w)
    clear hok
    obtain ⟨og, hog⟩ : ∃ o, o = Obj.cells #[.int .i64 c, .int .i64 l, .int .i64 k, .int .i64 p, .int .i64 s] 23 := ⟨_, rfl⟩
    obtain ⟨a, ha⟩ : ∃ a, a = w.alloc og := ⟨_, rfl⟩
    have hwa : Below w.heap.size w a := by rw [ha]; exact (Below.refl _ _).alloc (Nat.le_refl _) _
    have hgeo : Geo a w.heap.size c l k p s := by rw [ha, hog]; exact geo_new w _ _ _ _ _ _
    have HWA := Lib.hid hwa
    have HGEO := Lib.hid hgeo
    have HA0 := Lib.hid ha
    have HAW := Lib.hid (fun w => awake_any w)
    clear hwa hgeo ha
    go_enter Try.func4, Try.ntmps4
    go_wp2_with fail
    rw [← hog, ← HA0.out]
    refine (HAW.out a).mono ?_
    rintro e1 wa ⟨rfl, hb⟩
    have HA := Lib.hid hb
    clear hb
    obtain ⟨k0, k1, k2, k3, k4⟩ := geo_keep HGEO.out HA.out
    go_wp2_with fail
    refine (HN.out _).mono ?_
    rintro e2 w2 ⟨rfl, hb⟩
    have HB2 := Lib.hid (HWA.out.trans ((below_then HA.out hb).mono HWA.out.size))
    clear hb
    go_wp2
    go_loopw [10, 11] (fun z i wr => z = .bool true ∧ i = .int .i64 0 ∧ wr = w2) (fun _ _ _ => 0)
    case atStart => exact ⟨rfl, rfl, rfl⟩
    case round =>
      obtain ⟨rfl, rfl, rfl⟩ := hrel
      go_wp2
      all_goals
        go_ret
        exact ⟨rfl, HB2.out⟩
  obtain ⟨G, hG, rfl, rfl, rfl, rfl, rfl⟩ : ∃ G : Shape, G.Ok ∧ G.c = c ∧ G.l = l ∧ G.k = k ∧ G.p = p ∧ G.s = s := ⟨⟨c, l, k, p, s, _, _, _, _⟩, Geom.sizes hok, rfl, rfl, rfl, rfl, rfl⟩
  clear hok
  by_cases hnum : 1 ≤ num ∧ num ≤ 4096 ∧ num ≤ G.N
  rotate_left
  · have HN := Lib.hid (fun w => both_no G.c G.l G.k G.p G.s num (.inr ⟨G, hG, rfl, rfl, rfl, rfl, rfl, hnum⟩) w)
    clear hG hnum
    obtain ⟨og, hog⟩ : ∃ o, o = Obj.cells #[.int .i64 G.c, .int .i64 G.l, .int .i64 G.k, .int .i64 G.p, .int .i64 G.s] 23 := ⟨_, rfl⟩
    obtain ⟨a, ha⟩ : ∃ a, a = w.alloc og := ⟨_, rfl⟩
    have hwa : Below w.heap.size w a := by rw [ha]; exact (Below.refl _ _).alloc (Nat.le_refl _) _
    have hgeo : Geo a w.heap.size G.c G.l G.k G.p G.s := by rw [ha, hog]; exact geo_new w _ _ _ _ _ _
    have HWA := Lib.hid hwa
    have HGEO := Lib.hid hgeo
    have HA0 := Lib.hid ha
    have HAW := Lib.hid (fun w => awake_any w)
    clear hwa hgeo ha
    go_enter Try.func4, Try.ntmps4
    go_wp2_with fail
    rw [← hog, ← HA0.out]
    refine (HAW.out a).mono ?_
    rintro e1 wa ⟨rfl, hb⟩
    have HA := Lib.hid hb
    clear hb
    obtain ⟨k0, k1, k2, k3, k4⟩ := geo_keep HGEO.out HA.out
    go_wp2_with fail
    refine (HN.out _).mono ?_
    rintro e2 w2 ⟨rfl, hb⟩
    have HB2 := Lib.hid (HWA.out.trans ((below_then HA.out hb).mono HWA.out.size))
    clear hb
    go_wp2
    go_loopw [10, 11] (fun z i wr => z = .bool true ∧ i = .int .i64 0 ∧ wr = w2) (fun _ _ _ => 0)
    case atStart => exact ⟨rfl, rfl, rfl⟩
    case round =>
      obtain ⟨rfl, rfl, rfl⟩ := hrel
      go_wp2
      all_goals
        go_ret
        exact ⟨rfl, HB2.out⟩
  obtain ⟨hm0, hm1, hm2⟩ := hnum
  obtain ⟨n, rfl⟩ := Int.eq_ofNat_of_zero_le (show 0 ≤ num by omega)
  obtain ⟨og, hog⟩ : ∃ o, o = Obj.cells #[.int .i64 G.c, .int .i64 G.l, .int .i64 G.k, .int .i64 G.p, .int .i64 G.s] 23 := ⟨_, rfl⟩
  obtain ⟨a, ha⟩ : ∃ a, a = w.alloc og := ⟨_, rfl⟩
  have hwa : Below w.heap.size w a := by rw [ha]; exact (Below.refl _ _).alloc (Nat.le_refl _) _
  have hgeo : Geo a w.heap.size G.c G.l G.k G.p G.s := by rw [ha, hog]; exact geo_new w _ _ _ _ _ _
  have HWA := Lib.hid hwa
  have HGEO := Lib.hid hgeo
  have HA0 := Lib.hid ha
  have HAW := Lib.hid (fun w => awake_any w)
  clear hwa hgeo ha
  have HG := Lib.hid hG
  clear hG
  go_enter Try.func4, Try.ntmps4
  go_wp2_with fail
  rw [← hog, ← HA0.out]
  refine (HAW.out a).mono ?_
  rintro e1 wa ⟨rfl, hb⟩
  have HA := Lib.hid hb
  clear hb
  obtain ⟨k0, k1, k2, k3, k4⟩ := geo_keep HGEO.out HA.out
  have HN := Lib.hid (both_yes HG.out n (by omega) (by omega) hm2 a wa HA.out)
  clear hm2
  go_wp2_with fail
  refine HN.out.mono ?_
  rintro e2 w2 ⟨gd, rr, rfl, h⟩
  have H := Lib.hid h
  clear h k0 k1 k2 k3 k4 HN
  have HBW := Lib.hid (fun (w' : World) (hb : Below a.heap.size a w') => show Below w.heap.size w w' from HWA.out.trans (hb.mono HWA.out.size))
  go_wp2
  go_loopw [10, 11] (fun z i wr => ∃ (j : Nat) (st : St), z = .bool true ∧ i = .int .i64 (j : Int) ∧ j ≤ m ∧ Two G n a gd rr st st [] wr) (fun _ i _ => m - (intOf i).toNat)
  case atStart => exact ⟨0, _, rfl, rfl, by omega, H.out⟩
  case round =>
    obtain ⟨j, st, rfl, rfl, hj, h⟩ := hrel
    replace H := Lib.hid h
    clear h
    by_cases hgo : j < m ∧ j < 100
    · obtain ⟨hlt, hlt2⟩ := hgo
      obtain ⟨b, off', x0, x1, x2, x3, x4, x5, x6, rfl, ho⟩ := HOPS.out j hlt
      obtain ⟨c0, c1, c2, c3, c4, c5, c6, _⟩ := ho.keep (HBW.out _ H.out.below)
      clear ho
      have hlt' : (j : Int) < m := by omega
      have HD := Lib.hid (does_any HG.out H.out x0 x1 x2 x3 x4 x5 x6)
      unfold opV at HD
      go_wp2_with fail
      refine HD.out.mono ?_
      rintro e3 w3 ⟨rfl, st', h⟩
      clear HD c0 c1 c2 c3 c4 c5 c6
      have HM1 := Lib.hid (Many1 h)
      have HM2 := Lib.hid (fun w (h : Two G n a gd rr st' st' [] w) => Many2 h)
      generalize many st' n = Z at HM1 HM2
      clear h
      go_wp2_with fail
      refine HM1.out.mono ?_
      rintro e4 w4 ⟨rfl, h, _⟩
      have HM3 := Lib.hid (HM2.out _ h)
      clear h HM1 HM2
      go_wp2_with fail
      refine HM3.out.mono ?_
      rintro e5 w5 ⟨rfl, h, _⟩
      clear HM3
      go_wp2
      go_roundw
      case rel => exact ⟨j + 1, st', rfl, by go_num, by omega, h⟩
      case measure => simp [intOf]; omega
    · have hstop : decide (j < m) = false ∨ (decide (j < m) = true ∧ decide ((j : Int) < 100) = false) := by
        by_cases h : j < m
        · exact .inr ⟨decide_eq_true (by omega), decide_eq_false (by omega)⟩
        · exact .inl (decide_eq_false (by omega))
      clear hgo
      rcases hstop with h1 | ⟨h1, h2⟩
      all_goals
        go_wp2
        go_ret
        exact ⟨rfl, HBW.out _ H.out.below⟩

theorem own : ownKnob Try.prog.godebug = none := by kernel_rfl
theorem laid : laidOutB Try.prog = true := by kernel_rfl

set_option maxRecDepth 100000 in
theorem lifted (os : Os) (started : os.Started) (H : Type) (enc : TypeId × Value → H) :
    ReturnsInHanded {} Try.checked os 4 .any (Rows.l2pPlaysSpec.pre6 enc Try.prog Try.f4 Rows.l2pPlaysRow.domain false) (Rows.l2pPlaysSpec.post enc Try.prog Try.f4 false true false false) := by
  refine returnsInHanded_of_change (C := Try.checked) own started (by kernel_rfl) Try.func4
    (ChangeSpec.witness6 (enc := enc) (C := Try.checked) false ⟨#[], #[.agg #[.int .i64 0, .int .i64 0, .int .i64 0, .int .i64 0, .int .i64 0], .int .i64 0, .slice none 0 0], []⟩ 8 (by kernel_rfl) (by kernel_rfl) (by kernel_rfl) (by kernel_rfl)) ?_
  intro W base args ds gs before hval0 hW _ _
  have hval : ∀ (j : Nat) t v, Try.f4.params[j]? = some t → args[j]? = some v → Value.okWide Try.prog W .any base t v := hval0
  have hW' := hW
  obtain ⟨p, q, hA0, hV, rfl, hfz, hnd⟩ := hW
  have hA : DataW.TrodAll enc Try.prog W 0 (fun _ => true) true Try.f4.params.toList args.toList ds p := hA0
  rw [Try.params4] at hA hval
  obtain ⟨v0, v1, v2, d0, d1, d2, p0, p1, p2, rfl, rfl, rfl, h0, h1, h2⟩ := trodAll_three hA
  obtain ⟨c0, l0, k0, q0, s0, rfl⟩ := open_geo Try.underlying23 rfl (by kernel_rfl) (by kernel_rfl) (hval 0 23 v0 rfl rfl) h0
  obtain ⟨a1, rfl, rfl, rfl, wf1⟩ := open_int Try.underlying3 (hval 1 3 v1 rfl rfl) h1
  have hb1 : -9223372036854775808 ≤ a1 ∧ a1 ≤ 9223372036854775807 := by simpa [Lit.wf, IntKind.min, IntKind.max, IntKind.signed, IntKind.bits] using wf1
  obtain ⟨A2, n2, c2, rfl, hnc2, hcm2, hr2⟩ := L2pOps.open_ops (hval 2 38 v2 rfl rfl) h2
  refine (walk c0 l0 k0 q0 s0 a1 A2 n2 c2 W hb1.1 hb1.2 hnc2 hcm2 hr2).mono fun e W' ⟨he, hb⟩ => ?_
  subst he
  exact ⟨_, rfl, Law.post laid (by kernel_rfl) (by kernel_rfl) Try.underlying4 rfl hW' rfl hb⟩

theorem proved : Rows.L2pPlaysSaid :=
  OpenClaim.holds_of_wide 4 Try.f4 rfl rfl rfl rfl rfl rfl rfl ⟨rfl, rfl, rfl, rfl, rfl⟩ rfl rfl rfl rfl rfl (by kernel_rfl) Try.func4 (by kernel_rfl)
    (of_decide_eq_true (by kernel_rfl)) (by unfold Func.isWrapper; first | (rw [if_pos (by decide +kernel)]; kernel_rfl) | (rw [if_neg (by decide +kernel)]; exact ⟨rfl, rfl⟩))
    (fun os started H enc _ => lifted os started H enc)

end Go.Proofs.Ytpheblblkkclbaa.l2pPlays
