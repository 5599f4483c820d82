/-
  L2pNews holds: which maps there are; for every geometry, number of sectors and sector. No condition.
-/
import Derived.Test.YtpheblblkkclbaaL2pKit
import Derived.Test.YtpheblblkkclbaaLawKit
import Derived.OpenShut
import Derived.Test.YtpheblblkkclbaaL2pTwo
namespace Go.Proofs.Ytpheblblkkclbaa.l2pNews
open Go.RowKit Go.ChangeShapes Go.WideShapes L2p L2pPkg L2pLaw
open Nand (Shape)
set_option maxRecDepth 4000

abbrev Box3 (w : World) (b : Nat) (x y z : Int) : Prop := w.cell? ⟨b, 0, none⟩ = some (.int .i64 x) ∧ w.cell? ⟨b, 1, none⟩ = some (.int .i64 y) ∧ w.cell? ⟨b, 2, none⟩ = some (.int .i64 z)
theorem two_boxes {w w' : World} {b b' : Nat} {x y z : Int} (h : w.cell? ⟨b, 0, none⟩ = some (.int .i64 x) ∧ w.cell? ⟨b, 1, none⟩ = some (.int .i64 y) ∧ w.cell? ⟨b, 2, none⟩ = some (.int .i64 z) ∧ Box3 w b' x y z) (hb : Below w.heap.size w w') :
    w'.cell? ⟨b, 0, none⟩ = some (.int .i64 x) ∧ w'.cell? ⟨b, 1, none⟩ = some (.int .i64 y) ∧ w'.cell? ⟨b, 2, none⟩ = some (.int .i64 z) ∧ Box3 w' b' x y z :=
  ⟨cell_stays hb h.1, cell_stays hb h.2.1, cell_stays hb h.2.2.1, cell_stays hb h.2.2.2.1, cell_stays hb h.2.2.2.2.1, cell_stays hb h.2.2.2.2.2⟩

theorem many_off (n : Nat) : many (fun _ => off) n = 0 := by
  induction n with
  | zero => rfl
  | succ n ih => rw [many_succ, ih]; rfl

set_option maxHeartbeats 4000000 in
theorem walk (c l k p s num lba : Int) (w : World) (hb0 : -9223372036854775808 ≤ num) (hb1 : num ≤ 9223372036854775807) (_hb2 : -9223372036854775808 ≤ lba) (_hb3 : lba ≤ 9223372036854775807) :
    Calls Try.prog 3 #[.agg #[.int .i64 c, .int .i64 l, .int .i64 k, .int .i64 p, .int .i64 s], .int .i64 num, .int .i64 lba] w fun e w' => e = .returned (.bool true) ∧ Below w.heap.size w w' := by
  by_cases hok : Geom.ok c l k p s
  rotate_left
  · have HN := Lib.hid (fun w => both_no c l k p s num (.inl hok) w)
    clear hok
    obtain ⟨og, hog⟩ : ∃ o, o = Obj.cells #[.int .i64 c, .int .i64 l, .int .i64 k, .int .i64 p, .int .i64 s] 23 := ⟨_, rfl⟩
    obtain ⟨a, ha⟩ : ∃ a, a = w.alloc og := ⟨_, rfl⟩
    have hwa : Below w.heap.size w a := by rw [ha]; exact (Below.refl _ _).alloc (Nat.le_refl _) _
    have hgeo : Geo a w.heap.size c l k p s := by rw [ha, hog]; exact geo_new w _ _ _ _ _ _
    have HWA := Lib.hid hwa
    have HGEO := Lib.hid hgeo
    have HA0 := Lib.hid ha
    have HAW := Lib.hid (fun w => awake_any w)
    clear hwa hgeo ha
    go_enter Try.func3, Try.ntmps3
    go_wp2_with fail
    rw [← hog, ← HA0.out]
    refine (HAW.out a).mono ?_
    rintro e1 wa ⟨rfl, hb⟩
    have HA := Lib.hid hb
    clear hb
    obtain ⟨k0, k1, k2, k3, k4⟩ := geo_keep HGEO.out HA.out
    go_wp2_with fail
    refine (HN.out _).mono ?_
    rintro e2 w2 ⟨rfl, hb⟩
    have HB2 := Lib.hid (HWA.out.trans ((below_then HA.out hb).mono HWA.out.size))
    clear hb
    go_wp2
    go_ret
    exact ⟨rfl, HB2.out⟩
  obtain ⟨G, hG, rfl, rfl, rfl, rfl, rfl⟩ : ∃ G : Shape, G.Ok ∧ G.c = c ∧ G.l = l ∧ G.k = k ∧ G.p = p ∧ G.s = s := ⟨⟨c, l, k, p, s, _, _, _, _⟩, Geom.sizes hok, rfl, rfl, rfl, rfl, rfl⟩
  clear hok
  by_cases hnum : 1 ≤ num ∧ num ≤ 4096 ∧ num ≤ G.N
  rotate_left
  · have HN := Lib.hid (fun w => both_no G.c G.l G.k G.p G.s num (.inr ⟨G, hG, rfl, rfl, rfl, rfl, rfl, hnum⟩) w)
    clear hG hnum
    obtain ⟨og, hog⟩ : ∃ o, o = Obj.cells #[.int .i64 G.c, .int .i64 G.l, .int .i64 G.k, .int .i64 G.p, .int .i64 G.s] 23 := ⟨_, rfl⟩
    obtain ⟨a, ha⟩ : ∃ a, a = w.alloc og := ⟨_, rfl⟩
    have hwa : Below w.heap.size w a := by rw [ha]; exact (Below.refl _ _).alloc (Nat.le_refl _) _
    have hgeo : Geo a w.heap.size G.c G.l G.k G.p G.s := by rw [ha, hog]; exact geo_new w _ _ _ _ _ _
    have HWA := Lib.hid hwa
    have HGEO := Lib.hid hgeo
    have HA0 := Lib.hid ha
    have HAW := Lib.hid (fun w => awake_any w)
    clear hwa hgeo ha
    go_enter Try.func3, Try.ntmps3
    go_wp2_with fail
    rw [← hog, ← HA0.out]
    refine (HAW.out a).mono ?_
    rintro e1 wa ⟨rfl, hb⟩
    have HA := Lib.hid hb
    clear hb
    obtain ⟨k0, k1, k2, k3, k4⟩ := geo_keep HGEO.out HA.out
    go_wp2_with fail
    refine (HN.out _).mono ?_
    rintro e2 w2 ⟨rfl, hb⟩
    have HB2 := Lib.hid (HWA.out.trans ((below_then HA.out hb).mono HWA.out.size))
    clear hb
    go_wp2
    go_ret
    exact ⟨rfl, HB2.out⟩
  obtain ⟨hm0, hm1, hm2⟩ := hnum
  obtain ⟨n, rfl⟩ := Int.eq_ofNat_of_zero_le (show 0 ≤ num by omega)
  obtain ⟨og, hog⟩ : ∃ o, o = Obj.cells #[.int .i64 G.c, .int .i64 G.l, .int .i64 G.k, .int .i64 G.p, .int .i64 G.s] 23 := ⟨_, rfl⟩
  obtain ⟨a, ha⟩ : ∃ a, a = w.alloc og := ⟨_, rfl⟩
  have hwa : Below w.heap.size w a := by rw [ha]; exact (Below.refl _ _).alloc (Nat.le_refl _) _
  have hgeo : Geo a w.heap.size G.c G.l G.k G.p G.s := by rw [ha, hog]; exact geo_new w _ _ _ _ _ _
  have HWA := Lib.hid hwa
  have HGEO := Lib.hid hgeo
  have HA0 := Lib.hid ha
  have HAW := Lib.hid (fun w => awake_any w)
  clear hwa hgeo ha
  have HG := Lib.hid hG
  clear hG
  go_enter Try.func3, Try.ntmps3
  go_wp2_with fail
  rw [← hog, ← HA0.out]
  refine (HAW.out a).mono ?_
  rintro e1 wa ⟨rfl, hb⟩
  have HA := Lib.hid hb
  clear hb
  obtain ⟨k0, k1, k2, k3, k4⟩ := geo_keep HGEO.out HA.out
  have HN := Lib.hid (both_yes HG.out n (by omega) (by omega) hm2 a wa HA.out)
  clear hm2
  go_wp2_with fail
  refine HN.out.mono ?_
  rintro e2 w2 ⟨gd, rr, rfl, h⟩
  have H := Lib.hid h
  clear h k0 k1 k2 k3 k4 HN
  have HBW := Lib.hid (fun (w' : World) (hb : Below a.heap.size a w') => show Below w.heap.size w w' from HWA.out.trans (hb.mono HWA.out.size))
  have HG1 := Lib.hid (Get1 H.out lba)
  have HG2 := Lib.hid (fun w (h : Two G n a gd rr (fun _ => off) (fun _ => off) [] w) => Get2 h lba)
  generalize getE (fun _ => off) n lba = E at HG1 HG2
  generalize getK n lba = K at HG1 HG2
  go_wp2_with fail
  refine HG1.out.mono ?_
  rintro e3 w3 ⟨rfl, h, _⟩
  have hx := (Below.refl w3.heap.size w3).alloc (Nat.le_refl _) (.cells #[.int .i64 E.a, .int .i64 E.s, .int .i64 E.k] 30)
  obtain ⟨f0, f1, f2⟩ := L2pRef.ebox_new w3 E _ rfl
  replace H := Lib.hid (h.on hx)
  clear h hx HG1
  unfold entV
  go_wp2_with fail
  refine (HG2.out _ H.out).mono ?_
  rintro e4 w4 ⟨rfl, h, hb⟩
  have hx := hb.alloc hb.size (.cells #[.int .i64 E.a, .int .i64 E.s, .int .i64 E.k] 30)
  obtain ⟨g0, g1, g2⟩ := L2pRef.ebox_new w4 E _ rfl
  replace f0 := cell_stays hx f0
  replace f1 := cell_stays hx f1
  replace f2 := cell_stays hx f2
  replace H := Lib.hid (h.on ((Below.refl w4.heap.size w4).alloc (Nat.le_refl _) (.cells #[.int .i64 E.a, .int .i64 E.s, .int .i64 E.k] 30)))
  clear h hx hb HG2
  unfold entV
  have HM := Lib.hid (H.out.on (Below.refl _ _).drew)
  have HMY := Lib.hid (fun w (h : Two G n a gd rr (fun _ => off) (fun _ => off) [] w) => Many1 h)
  rw [many_off] at HMY
  have HB1 := Lib.hid (fun w (h : Two G n a gd rr (fun _ => off) (fun _ => off) [] w) => Bits1 HG.out h 0)
  have HB2 := Lib.hid (fun w (h : Two G n a gd rr (fun _ => off) (fun _ => off) [] w) => Bits2 HG.out h 0)
  generalize bitsAt (fun _ => off) n G 0 = L at HB1 HB2
  have hq := str_eq (rfl : L = L)
  obtain ⟨ll, hll⟩ : ∃ l, l = L.length := ⟨_, rfl⟩
  rw [← hll] at HB1 HB2
  clear hll
  have HSF : Hid (_ ∧ _ ∧ _ ∧ Box3 (World.drew _) _ _ _ _) := Lib.hid (two_boxes ⟨f0, f1, f2, g0, g1, g2⟩ (Below.refl _ _).drew)
  go_wp2_with fail
  go_region_held (fun w' => w'.cell? ⟨w3.heap.size, 0, none⟩ = some (.int .i64 E.a) ∧ w'.cell? ⟨w3.heap.size, 1, none⟩ = some (.int .i64 E.s) ∧ w'.cell? ⟨w3.heap.size, 2, none⟩ = some (.int .i64 E.k) ∧ w'.cell? ⟨w4.heap.size, 0, none⟩ = some (.int .i64 E.a) ∧ w'.cell? ⟨w4.heap.size, 1, none⟩ = some (.int .i64 E.s) ∧ w'.cell? ⟨w4.heap.size, 2, none⟩ = some (.int .i64 E.k))
    (first | exact HSF.out | exact ⟨f0, f1, f2, g0, g1, g2⟩)
    (first
      | (go_at_call 13; refine (HMY.out _ HM.out).mono ?_; rintro e5 w5 ⟨rfl, h, hb⟩; replace HSF := Lib.hid (two_boxes HSF.out hb); replace HM := Lib.hid h; clear h)
      | (go_at_call 14; refine (HB1.out _ HM.out).mono ?_; rintro e6 w6 ⟨A6, c6, rfl, hr, h, hb⟩; replace HSF := Lib.hid (two_boxes HSF.out hb); have hs1 := run_str (P := Try.prog) w6 35 9 5 Try.underlying35 Try.underlying5 Try.underlying9 (c := c6) hr; have HR6 := Lib.hid hr; replace HM := Lib.hid h; clear h hr)
      | (go_at_call 15; refine (HB2.out _ HM.out).mono ?_; rintro e7 w7 ⟨A7, c7, rfl, hr, h, hb⟩; replace HSF := Lib.hid (two_boxes HSF.out hb); have hs2 := run_str (P := Try.prog) w7 35 9 5 Try.underlying35 Try.underlying5 Try.underlying9 (c := c7) hr; have hs3 := run_str (P := Try.prog) w7 35 9 5 Try.underlying35 Try.underlying5 Try.underlying9 (c := c6) (bytes_keep HR6.out hb); replace HM := Lib.hid h; clear h hr))
  all_goals
    clear hs1 hs2 hs3 hq
    go_wp2
    go_ret
    exact ⟨rfl, HBW.out _ HM.out.below⟩

theorem own : ownKnob Try.prog.godebug = none := by kernel_rfl
theorem laid : laidOutB Try.prog = true := by kernel_rfl

set_option maxRecDepth 100000 in
theorem lifted (os : Os) (started : os.Started) (H : Type) (enc : TypeId × Value → H) :
    ReturnsInHanded {} Try.checked os 3 .any (Rows.l2pNewsSpec.pre6 enc Try.prog Try.f3 Rows.l2pNewsRow.domain false) (Rows.l2pNewsSpec.post enc Try.prog Try.f3 false true false false) := by
  refine returnsInHanded_of_change (C := Try.checked) own started (by kernel_rfl) Try.func3
    (ChangeSpec.witness6 (enc := enc) (C := Try.checked) false ⟨#[], #[.agg #[.int .i64 0, .int .i64 0, .int .i64 0, .int .i64 0, .int .i64 0], .int .i64 0, .int .i64 0], []⟩ 8 (by kernel_rfl) (by kernel_rfl) (by kernel_rfl) (by kernel_rfl)) ?_
  intro W base args ds gs before hval0 hW _ _
  have hval : ∀ (j : Nat) t v, Try.f3.params[j]? = some t → args[j]? = some v → Value.okWide Try.prog W .any base t v := hval0
  have hW' := hW
  obtain ⟨p, q, hA0, hV, rfl, hfz, hnd⟩ := hW
  have hA : DataW.TrodAll enc Try.prog W 0 (fun _ => true) true Try.f3.params.toList args.toList ds p := hA0
  rw [Try.params3] at hA hval
  obtain ⟨v0, v1, v2, d0, d1, d2, p0, p1, p2, rfl, rfl, rfl, h0, h1, h2⟩ := trodAll_three hA
  obtain ⟨c0, l0, k0, q0, s0, rfl⟩ := open_geo Try.underlying23 rfl (by kernel_rfl) (by kernel_rfl) (hval 0 23 v0 rfl rfl) h0
  obtain ⟨a1, rfl, rfl, rfl, wf1⟩ := open_int Try.underlying3 (hval 1 3 v1 rfl rfl) h1
  have hb1 : -9223372036854775808 ≤ a1 ∧ a1 ≤ 9223372036854775807 := by simpa [Lit.wf, IntKind.min, IntKind.max, IntKind.signed, IntKind.bits] using wf1
  obtain ⟨a2, rfl, rfl, rfl, wf2⟩ := open_int Try.underlying3 (hval 2 3 v2 rfl rfl) h2
  have hb2 : -9223372036854775808 ≤ a2 ∧ a2 ≤ 9223372036854775807 := by simpa [Lit.wf, IntKind.min, IntKind.max, IntKind.signed, IntKind.bits] using wf2
  refine (walk c0 l0 k0 q0 s0 a1 a2 W hb1.1 hb1.2 hb2.1 hb2.2).mono fun e W' ⟨he, hb⟩ => ?_
  subst he
  exact ⟨_, rfl, Law.post laid (by kernel_rfl) (by kernel_rfl) Try.underlying4 rfl hW' rfl hb⟩

theorem proved : Rows.L2pNewsSaid :=
  OpenClaim.holds_of_wide 3 Try.f3 rfl rfl rfl rfl rfl rfl rfl ⟨rfl, rfl, rfl, rfl, rfl⟩ rfl rfl rfl rfl rfl (by kernel_rfl) Try.func3 (by kernel_rfl)
    (of_decide_eq_true (by kernel_rfl)) (by unfold Func.isWrapper; first | (rw [if_pos (by decide +kernel)]; kernel_rfl) | (rw [if_neg (by decide +kernel)]; exact ⟨rfl, rfl⟩))
    (fun os started H enc _ => lifted os started H enc)

end Go.Proofs.Ytpheblblkkclbaa.l2pNews
