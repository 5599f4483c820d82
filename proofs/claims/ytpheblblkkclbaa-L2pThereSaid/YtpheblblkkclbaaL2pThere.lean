/-
  L2pThere holds: a sector that is moved there and back is where it was; an address that is left is free for others; for every geometry, three addresses and a stamp. No condition.
-/
import Derived.Test.YtpheblblkkclbaaL2pKit
import Derived.Test.YtpheblblkkclbaaLawKit
import Derived.OpenShut
import Derived.Test.YtpheblblkkclbaaArrays
namespace Go.Proofs.Ytpheblblkkclbaa.l2pThere
open Go.RowKit Go.ChangeShapes Go.WideShapes L2p L2pPkg L2pLaw
open Nand (Shape)
set_option maxRecDepth 4000

theorem cells3 {w : World} {b : Nat} {x y z : Value} {t : TypeId} (h : w.heap[b]? = some (.cells #[x, y, z] t (0, 0))) : w.cell? ⟨b, 0, none⟩ = some x ∧ w.cell? ⟨b, 1, none⟩ = some y ∧ w.cell? ⟨b, 2, none⟩ = some z := by
  refine ⟨?_, ?_, ?_⟩ <;> simp [World.cell?, h]

theorem cell_geo_keep {w w' : World} {x : Addr} {v : Value} {B : Nat} {c l k p s : Int} (h : w.cell? x = some v ∧ Geo w B c l k p s) (hb : Below w.heap.size w w') : w'.cell? x = some v ∧ Geo w' B c l k p s := ⟨cell_stays hb h.1, geo_keep h.2 hb⟩

set_option maxHeartbeats 4000000 in
theorem walk (c l k p s x0 x1 x2 stamp : Int) (w : World) (hb0 : -9223372036854775808 ≤ stamp) (hb1 : stamp ≤ 9223372036854775807) :
    Calls Try.prog 8 #[.agg #[.int .i64 c, .int .i64 l, .int .i64 k, .int .i64 p, .int .i64 s], .agg #[.int .i64 x0, .int .i64 x1, .int .i64 x2], .int .i64 stamp] w fun e w' => e = .returned (.bool true) ∧ Below w.heap.size w w' := by
  by_cases hok : Geom.ok c l k p s
  rotate_left
  · have HN := Lib.hid (fun w => New_geo c l k p s hok 2 w)
    clear hok
    obtain ⟨og, hog⟩ : ∃ o, o = Obj.cells #[.int .i64 c, .int .i64 l, .int .i64 k, .int .i64 p, .int .i64 s] 23 := ⟨_, rfl⟩
    obtain ⟨ox, hox⟩ : ∃ o, o = Obj.cells #[.int .i64 x0, .int .i64 x1, .int .i64 x2] 58 := ⟨_, rfl⟩
    obtain ⟨a, ha⟩ : ∃ a, a = (w.alloc og).alloc ox := ⟨_, rfl⟩
    have hwa : Below w.heap.size w a := by rw [ha]; exact ((Below.refl _ _).alloc (Nat.le_refl _) _).alloc (by simp) _
    have hgeo : Geo a w.heap.size c l k p s := by rw [ha, hog]; exact geo_keep (geo_new w _ _ _ _ _ _) ((Below.refl _ _).alloc (Nat.le_refl _) _)
    have hx : a.cell? ⟨w.heap.size + 1, 0, none⟩ = some (.int .i64 x0) ∧ a.cell? ⟨w.heap.size + 1, 1, none⟩ = some (.int .i64 x1) ∧ a.cell? ⟨w.heap.size + 1, 2, none⟩ = some (.int .i64 x2) := by
      have e : w.heap.size + 1 = (w.alloc og).heap.size := by simp
      rw [ha, hox, e]
      refine ⟨?_, ?_, ?_⟩ <;> simp [World.cell?_alloc_at]
    have HWA := Lib.hid hwa
    have HGEO := Lib.hid hgeo
    have HX := Lib.hid hx
    have HA0 := Lib.hid ha
    have HAW := Lib.hid (fun w => awake_any w)
    clear hwa hgeo hx ha
    go_enter Try.func8, Try.ntmps8
    go_wp2_with fail
    rw [← hog, ← hox, ← HA0.out]
    refine (HAW.out a).mono ?_
    rintro e1 wa ⟨rfl, hb⟩
    have HA := Lib.hid hb
    clear hb
    obtain ⟨k0, k1, k2, k3, k4⟩ := geo_keep HGEO.out HA.out
    go_wp2_with fail
    refine (HN.out _).mono ?_
    rintro e2 w2 ⟨rfl, hb⟩
    have HB2 := Lib.hid (HWA.out.trans ((below_then HA.out hb).mono HWA.out.size))
    clear hb
    go_wp2
    go_ret
    exact ⟨rfl, HB2.out⟩
  obtain ⟨G, hG, rfl, rfl, rfl, rfl, rfl⟩ : ∃ G : Shape, G.Ok ∧ G.c = c ∧ G.l = l ∧ G.k = k ∧ G.p = p ∧ G.s = s := ⟨⟨c, l, k, p, s, _, _, _, _⟩, Geom.sizes hok, rfl, rfl, rfl, rfl, rfl⟩
  clear hok
  by_cases hnN : (2 : Int) ≤ G.N
  rotate_left
  · have HN := Lib.hid (fun w => New_num hG 2 (by omega) w)
    clear hG hnN
    obtain ⟨og, hog⟩ : ∃ o, o = Obj.cells #[.int .i64 G.c, .int .i64 G.l, .int .i64 G.k, .int .i64 G.p, .int .i64 G.s] 23 := ⟨_, rfl⟩
    obtain ⟨ox, hox⟩ : ∃ o, o = Obj.cells #[.int .i64 x0, .int .i64 x1, .int .i64 x2] 58 := ⟨_, rfl⟩
    obtain ⟨a, ha⟩ : ∃ a, a = (w.alloc og).alloc ox := ⟨_, rfl⟩
    have hwa : Below w.heap.size w a := by rw [ha]; exact ((Below.refl _ _).alloc (Nat.le_refl _) _).alloc (by simp) _
    have hgeo : Geo a w.heap.size G.c G.l G.k G.p G.s := by rw [ha, hog]; exact geo_keep (geo_new w _ _ _ _ _ _) ((Below.refl _ _).alloc (Nat.le_refl _) _)
    have hx : a.cell? ⟨w.heap.size + 1, 0, none⟩ = some (.int .i64 x0) ∧ a.cell? ⟨w.heap.size + 1, 1, none⟩ = some (.int .i64 x1) ∧ a.cell? ⟨w.heap.size + 1, 2, none⟩ = some (.int .i64 x2) := by
      have e : w.heap.size + 1 = (w.alloc og).heap.size := by simp
      rw [ha, hox, e]
      refine ⟨?_, ?_, ?_⟩ <;> simp [World.cell?_alloc_at]
    have HWA := Lib.hid hwa
    have HGEO := Lib.hid hgeo
    have HX := Lib.hid hx
    have HA0 := Lib.hid ha
    have HAW := Lib.hid (fun w => awake_any w)
    clear hwa hgeo hx ha
    go_enter Try.func8, Try.ntmps8
    go_wp2_with fail
    rw [← hog, ← hox, ← HA0.out]
    refine (HAW.out a).mono ?_
    rintro e1 wa ⟨rfl, hb⟩
    have HA := Lib.hid hb
    clear hb
    obtain ⟨k0, k1, k2, k3, k4⟩ := geo_keep HGEO.out HA.out
    go_wp2_with fail
    refine (HN.out _).mono ?_
    rintro e2 w2 ⟨rfl, hb⟩
    have HB2 := Lib.hid (HWA.out.trans ((below_then HA.out hb).mono HWA.out.size))
    clear hb
    go_wp2
    go_ret
    exact ⟨rfl, HB2.out⟩
  obtain ⟨og, hog⟩ : ∃ o, o = Obj.cells #[.int .i64 G.c, .int .i64 G.l, .int .i64 G.k, .int .i64 G.p, .int .i64 G.s] 23 := ⟨_, rfl⟩
  obtain ⟨ox, hox⟩ : ∃ o, o = Obj.cells #[.int .i64 x0, .int .i64 x1, .int .i64 x2] 58 := ⟨_, rfl⟩
  obtain ⟨a, ha⟩ : ∃ a, a = (w.alloc og).alloc ox := ⟨_, rfl⟩
  have hwa : Below w.heap.size w a := by rw [ha]; exact ((Below.refl _ _).alloc (Nat.le_refl _) _).alloc (by simp) _
  have hgeo : Geo a w.heap.size G.c G.l G.k G.p G.s := by rw [ha, hog]; exact geo_keep (geo_new w _ _ _ _ _ _) ((Below.refl _ _).alloc (Nat.le_refl _) _)
  have hx : a.cell? ⟨w.heap.size + 1, 0, none⟩ = some (.int .i64 x0) ∧ a.cell? ⟨w.heap.size + 1, 1, none⟩ = some (.int .i64 x1) ∧ a.cell? ⟨w.heap.size + 1, 2, none⟩ = some (.int .i64 x2) := by
    have e : w.heap.size + 1 = (w.alloc og).heap.size := by simp
    rw [ha, hox, e]
    refine ⟨?_, ?_, ?_⟩ <;> simp [World.cell?_alloc_at]
  have HWA := Lib.hid hwa
  have HGEO := Lib.hid hgeo
  have HX := Lib.hid hx
  have HA0 := Lib.hid ha
  have HAW := Lib.hid (fun w => awake_any w)
  clear hwa hgeo hx ha
  have hwas : w.heap.size + 1 < a.heap.size := World.block_lt_of_cell? _ _ HX.out.1
  have HD := Lib.hid (fun (w' : World) (hb : Below a.heap.size a w') => show w'.cell? ⟨w.heap.size + 1, 0, none⟩ = some (.int .i64 x0) ∧ w'.cell? ⟨w.heap.size + 1, 1, none⟩ = some (.int .i64 x1) ∧ w'.cell? ⟨w.heap.size + 1, 2, none⟩ = some (.int .i64 x2) from
    ⟨(hb.cell (p := ⟨w.heap.size + 1, 0, none⟩) hwas).trans HX.out.1, (hb.cell (p := ⟨w.heap.size + 1, 1, none⟩) hwas).trans HX.out.2.1, (hb.cell (p := ⟨w.heap.size + 1, 2, none⟩) hwas).trans HX.out.2.2⟩)
  obtain ⟨X, hX0, hX1, hX2⟩ : ∃ X : Nat → Int, X 0 = x0 ∧ X 1 = x1 ∧ X 2 = x2 := ⟨fun j => if j = 0 then x0 else if j = 1 then x1 else x2, rfl, rfl, rfl⟩
  have HXA := Lib.hid (fun (w' : World) (hb : Below a.heap.size a w') (j : Nat) (hj : j < 3) => show w'.cell? ⟨w.heap.size + 1, j, none⟩ = some (.int .i64 (X j)) by
    obtain ⟨e0, e1, e2⟩ := HD.out w' hb
    have h3 : j = 0 ∨ j = 1 ∨ j = 2 := by omega
    rcases h3 with rfl | rfl | rfl
    · rw [hX0]; exact e0
    · rw [hX1]; exact e1
    · rw [hX2]; exact e2)
  have HX0 := Lib.hid (And.intro hX0 (And.intro hX1 hX2))
  have HGE := Lib.hid (fun (w' : World) (hb : Below a.heap.size a w') => geo_keep HGEO.out hb)
  have HAL := Lib.hid (fun w => All_ok hG w)
  have HG := Lib.hid hG
  have HNN := Lib.hid hnN
  have hnb := hG.n1
  clear hX0 hX1 hX2 hG
  go_enter Try.func8, Try.ntmps8
  go_wp2_with fail
  rw [← hog, ← hox, ← HA0.out]
  refine (HAW.out a).mono ?_
  rintro e1 wa ⟨rfl, hb⟩
  have HA := Lib.hid hb
  clear hb
  obtain ⟨k0, k1, k2, k3, k4⟩ := geo_keep HGEO.out HA.out
  have HN := Lib.hid (New_m HG.out a wa HA.out 2 (by omega) (by omega) hnN)
  clear hnN
  go_wp2_with fail
  refine HN.out.mono ?_
  rintro e2 w2 ⟨gd, rfl, h⟩
  have H := Lib.hid h
  clear h k0 k1 k2 k3 k4 HN
  obtain ⟨d0, d1, d2⟩ := HD.out _ H.out.below
  have HBW := Lib.hid (fun (w' : World) (hb : Below a.heap.size a w') => show Below w.heap.size w w' from HWA.out.trans (hb.mono HWA.out.size))
  by_cases h01 : x0 = x1
  · go_wp2
    go_ret
    exact ⟨rfl, HBW.out _ H.out.below⟩
  by_cases h02 : x0 = x2
  · go_wp2
    go_ret
    exact ⟨rfl, HBW.out _ H.out.below⟩
  by_cases h12 : x1 = x2
  · go_wp2
    go_ret
    exact ⟨rfl, HBW.out _ H.out.below⟩
  have b01 : (x0 == x1) = false := by simpa using h01
  have b02 : (x0 == x2) = false := by simpa using h02
  have b12 : (x1 == x2) = false := by simpa using h12
  have HNE := Lib.hid (And.intro h01 (And.intro h02 h12))
  clear h01 h02 h12
  go_wp2
  go_loopw [10] (fun i wr => ∃ j : Nat, i = .int .i64 (j : Int) ∧ j ≤ 3 ∧ (∀ t, t < j → 0 ≤ X t ∧ X t < G.N) ∧ Mine G 2 a gd (fun _ => off) [] wr) (fun i _ => 3 - (intOf i).toNat)
  case atStart => exact ⟨0, rfl, by omega, fun t ht => absurd ht (by omega), H.out⟩
  case round =>
    obtain ⟨j, rfl, hj, hall, h⟩ := hrel
    replace H := Lib.hid h
    have HALL := Lib.hid hall
    clear h hall d0 d1 d2
    by_cases hlt : j < 3
    · have hc := HXA.out _ H.out.below j hlt
      have hlt2 : (j : Int) < 3 := by omega
      obtain ⟨k0, k1, k2, k3, k4⟩ := HGE.out _ H.out.below
      generalize hz : X j = z at hc
      have HZ := Lib.hid hz
      clear hz
      by_cases hz0 : z < 0
      · have b0 : decide (z < 0) = true := decide_eq_true hz0
        go_wp2_with fail
        go_quiet (fail)
        go_wp2
        go_ret
        exact ⟨rfl, below_drewN (HBW.out _ H.out.below) _⟩
      · have b0 : decide (z < 0) = false := decide_eq_false hz0
        go_wp2_with fail
        go_region_held (fun w' => w'.cell? ⟨w.heap.size + 1, j, none⟩ = some (.int .i64 z) ∧ w'.cell? ⟨w.heap.size, 0, none⟩ = some (.int .i64 G.c) ∧ w'.cell? ⟨w.heap.size, 1, none⟩ = some (.int .i64 G.l) ∧ w'.cell? ⟨w.heap.size, 2, none⟩ = some (.int .i64 G.k) ∧ w'.cell? ⟨w.heap.size, 3, none⟩ = some (.int .i64 G.p) ∧ w'.cell? ⟨w.heap.size, 4, none⟩ = some (.int .i64 G.s))
          (first | exact ⟨hc, k0, k1, k2, k3, k4⟩ | exact cell_geo_keep (by assumption) hb)
          (first | (go_at_call 27; refine (HAL.out _).mono ?_; rintro e3 w3 ⟨rfl, hb⟩))
        rename_i hHeld
        clear hHeld k0 k1 k2 k3 k4 hc
        have hb2 : Below wr.heap.size wr w3 := (Below.refl wr.heap.size wr).drew.trans hb
        replace H := Lib.hid (H.out.on hb2)
        clear hb hb2
        by_cases hz1 : G.N ≤ z
        · have b1 : decide (G.N ≤ z) = true := decide_eq_true hz1
          go_wp2
          go_ret
          exact ⟨rfl, HBW.out _ H.out.below⟩
        · have b1 : decide (G.N ≤ z) = false := decide_eq_false hz1
          go_wp2
          go_roundw
          case measure => simp [intOf]; omega
          case rel =>
            refine ⟨j + 1, by go_num, by omega, fun t ht => ?_, H.out⟩
            by_cases e : t = j
            · rw [e, HZ.out]; omega
            · exact HALL.out t (by omega)
    · obtain rfl : j = 3 := by omega
      obtain ⟨hX0, hX1, hX2⟩ := HX0.out
      have hr0 := HALL.out 0 (by omega)
      have hr1 := HALL.out 1 (by omega)
      have hr2 := HALL.out 2 (by omega)
      rw [hX0] at hr0
      rw [hX1] at hr1
      rw [hX2] at hr2
      clear hX0 hX1 hX2
      by_cases hs0 : stamp < 1
      · go_wp2
        go_ret
        exact ⟨rfl, HBW.out _ H.out.below⟩
      by_cases hs1 : 1125899906842624 < stamp
      · go_wp2
        go_ret
        exact ⟨rfl, HBW.out _ H.out.below⟩

      have hs2 : 1 ≤ stamp ∧ stamp ≤ 1125899906842624 := by omega
      have HR := Lib.hid (fun (x : Int) (h : 0 ≤ x ∧ x < G.N) => show right G.N ⟨x, stamp, 1⟩ from ⟨h.1, h.2, hs2.1, hs2.2, Int.le_refl _, by show (1 : Int) ≤ 2; omega⟩)
      have HR0 := Lib.hid hr0
      have HR1 := Lib.hid hr1
      have HR2 := Lib.hid hr2
      have HS3 := Lib.hid (show off.s < stamp by show (0 : Int) < stamp; omega)
      obtain ⟨d0, d1, d2⟩ := HD.out _ H.out.below
      rw [two_off] at H
      have hM := H.out.new #[.int .i64 x0, .int .i64 stamp, .int .i64 1] 30
      replace H := Lib.hid hM
      clear hM hs2 hr0 hr1 hr2
      obtain ⟨f0, f1, f2⟩ := cells3 (H.out.at (List.mem_singleton.2 rfl))
      have HC := Lib.hid (Set_yes HG.out H.out 0 (by omega) ⟨x0, stamp, 1⟩ (HR.out _ HR0.out) (.inl (by rw [who_two, if_neg (by have := HR0.out; show ¬ (-1 : Int) = x0; omega), if_neg (by have := HR0.out; show ¬ (-1 : Int) = x0; omega)])) HS3.out)
      rw [put_0] at HC
      go_wp2_with fail
      refine HC.out.mono ?_
      rintro e3 w3 ⟨rfl, h⟩
      replace H := Lib.hid h
      clear h HC d0 d1 d2 f0 f1 f2
      unfold setV
      obtain ⟨d0, d1, d2⟩ := HD.out _ H.out.below
      obtain ⟨f0, f1, f2⟩ := cells3 (H.out.at (List.mem_singleton.2 rfl))
      have HC := Lib.hid (Set_busy HG.out H.out 1 (by omega) ⟨x0, stamp, 1⟩ (HR.out _ HR0.out) (by rw [who_two, if_pos rfl]; decide))
      go_wp2_with fail
      refine HC.out.mono ?_
      rintro e4 w4 ⟨rfl, h⟩
      replace H := Lib.hid h
      clear h HC d0 d1 d2 f0 f1 f2
      unfold setV
      obtain ⟨d0, d1, d2⟩ := HD.out _ H.out.below
      obtain ⟨f0, f1, f2⟩ := cells3 (H.out.at (List.mem_singleton.2 rfl))
      have HC := Lib.hid (Move_yes HG.out H.out 0 (by omega) x0 x1 HR1.out.1 HR1.out.2 (.inl (by rw [who_two, if_neg (by have := HNE.out; show ¬ x0 = x1; omega), if_neg (by have := HR1.out; show ¬ (-1 : Int) = x1; omega)])) (by have := HR0.out; show x0 ≠ -1; omega) rfl)
      rw [two_0, put_0] at HC
      go_wp2_with fail
      refine HC.out.mono ?_
      rintro e5 w5 ⟨rfl, h⟩
      replace H := Lib.hid h
      clear h HC d0 d1 d2 f0 f1 f2
      unfold setV
      obtain ⟨d0, d1, d2⟩ := HD.out _ H.out.below
      obtain ⟨f0, f1, f2⟩ := cells3 (H.out.at (List.mem_singleton.2 rfl))
      have HC := Lib.hid (Set_yes HG.out H.out 1 (by omega) ⟨x0, stamp, 1⟩ (HR.out _ HR0.out) (.inl (by rw [who_two, if_neg (by have := HNE.out; show ¬ x1 = x0; omega), if_neg (by have := HR0.out; show ¬ (-1 : Int) = x0; omega)])) HS3.out)
      rw [put_1] at HC
      go_wp2_with fail
      refine HC.out.mono ?_
      rintro e6 w6 ⟨rfl, h⟩
      replace H := Lib.hid h
      clear h HC d0 d1 d2 f0 f1 f2
      unfold setV
      obtain ⟨d0, d1, d2⟩ := HD.out _ H.out.below
      obtain ⟨f0, f1, f2⟩ := cells3 (H.out.at (List.mem_singleton.2 rfl))
      have HC := Lib.hid (Move_busy HG.out H.out 0 (by omega) x1 x0 HR0.out.1 HR0.out.2 (by rw [who_two, if_neg (by have := HNE.out; show ¬ x1 = x0; omega), if_pos rfl]; decide))
      go_wp2_with fail
      refine HC.out.mono ?_
      rintro e7 w7 ⟨rfl, h⟩
      replace H := Lib.hid h
      clear h HC d0 d1 d2 f0 f1 f2
      unfold setV
      obtain ⟨d0, d1, d2⟩ := HD.out _ H.out.below
      obtain ⟨f0, f1, f2⟩ := cells3 (H.out.at (List.mem_singleton.2 rfl))
      have HC := Lib.hid (Move_yes HG.out H.out 1 (by omega) x0 x2 HR2.out.1 HR2.out.2 (.inl (by rw [who_two, if_neg (by have := HNE.out; show ¬ x1 = x2; omega), if_neg (by have := HNE.out; show ¬ x0 = x2; omega)])) (by have := HR0.out; show x0 ≠ -1; omega) rfl)
      rw [two_1, put_1] at HC
      go_wp2_with fail
      refine HC.out.mono ?_
      rintro e8 w8 ⟨rfl, h⟩
      replace H := Lib.hid h
      clear h HC d0 d1 d2 f0 f1 f2
      unfold setV
      obtain ⟨d0, d1, d2⟩ := HD.out _ H.out.below
      obtain ⟨f0, f1, f2⟩ := cells3 (H.out.at (List.mem_singleton.2 rfl))
      have HC := Lib.hid (Move_yes HG.out H.out 0 (by omega) x1 x0 HR0.out.1 HR0.out.2 (.inl (by rw [who_two, if_neg (by have := HNE.out; show ¬ x1 = x0; omega), if_neg (by have := HNE.out; show ¬ x2 = x0; omega)])) (by have := HR1.out; show x1 ≠ -1; omega) rfl)
      rw [two_0, put_0] at HC
      go_wp2_with fail
      refine HC.out.mono ?_
      rintro e9 w9 ⟨rfl, h⟩
      replace H := Lib.hid h
      clear h HC d0 d1 d2 f0 f1 f2
      unfold setV
      obtain ⟨d0, d1, d2⟩ := HD.out _ H.out.below
      obtain ⟨f0, f1, f2⟩ := cells3 (H.out.at (List.mem_singleton.2 rfl))
      replace H : Hid (Mine G 2 a gd (two ⟨x0, stamp, 1⟩ ⟨x2, stamp, 1⟩) [(wr.heap.size, Obj.cells #[.int .i64 x0, .int .i64 stamp, .int .i64 1] 30 (0, 0))] w9) := H
      have HG0 := Lib.hid (show Calls Try.prog 11 #[ptr gd 0, .int .i64 0] w9 fun x w' => x = .returned (.tuple #[.agg #[.int .i64 x0, .int .i64 stamp, .int .i64 1], .int .i64 0]) ∧ Below w9.heap.size w9 w' from Get_m H.out 0)
      go_wp2_with fail
      refine HG0.out.mono ?_
      rintro e10 w10 ⟨rfl, hb⟩
      obtain ⟨ya, hya⟩ : ∃ y, y = w10.heap.size := ⟨_, rfl⟩
      have hq := (H.out.on hb).new #[.int .i64 x0, .int .i64 stamp, .int .i64 1] 30
      replace H := Lib.hid hq
      clear hb hq HG0 d0 d1 d2 f0 f1 f2
      have HG1 := Lib.hid (show Calls Try.prog 11 #[ptr gd 0, .int .i64 1] _ fun x w' => x = .returned (.tuple #[.agg #[.int .i64 x2, .int .i64 stamp, .int .i64 1], .int .i64 0]) ∧ Below _ _ w' from Get_m H.out 1)
      go_wp2_with fail
      refine HG1.out.mono ?_
      rintro e11 w11 ⟨rfl, hb⟩
      have hq := (H.out.on hb).new #[.int .i64 x2, .int .i64 stamp, .int .i64 1] 30
      replace H := Lib.hid hq
      clear hb hq HG1
      obtain ⟨d0, d1, d2⟩ := HD.out _ H.out.below
      obtain ⟨f0, f1, f2⟩ := cells3 (H.out.at (.tail _ (.tail _ (.head _))))
      obtain ⟨g0, g1, g2⟩ := cells3 (H.out.at (.tail _ (.head _)))
      obtain ⟨h0, h1, h2⟩ := cells3 (H.out.at (.head _))
      have hl : liveAt (two ⟨x0, stamp, 1⟩ ⟨x2, stamp, 1⟩) 2 G.N x1 = -1 := by
        unfold liveAt
        rw [if_pos HR1.out, who_two, if_neg (by have := HNE.out; show ¬ x0 = x1; omega), if_neg (by have := HNE.out; show ¬ x2 = x1; omega)]
      have HLV := Lib.hid (Live_m HG.out H.out x1)
      rw [hl, show liveV (-1) = .tuple #[.int .i64 0, .bool false] from rfl] at HLV
      have hmy : many (two ⟨x0, stamp, 1⟩ ⟨x2, stamp, 1⟩) 2 = 2 := by
        rw [many_succ, many_succ, two_0, two_1, if_neg (by have := HR0.out; show ¬ x0 = -1; omega), if_neg (by have := HR2.out; show ¬ x2 = -1; omega)]
        rfl
      have HMY := Lib.hid (Many_m H.out)
      rw [hmy] at HMY
      clear hl hmy
      go_wp2_with fail
      refine HLV.out.mono ?_
      rintro e12 w12 ⟨rfl, hw⟩; subst w12
      go_wp2_with fail
      refine HMY.out.mono ?_
      rintro e13 w13 ⟨rfl, hb⟩
      go_wp2
      go_ret
      exact ⟨rfl, HBW.out _ (below_then H.out.below hb)⟩

theorem own : ownKnob Try.prog.godebug = none := by kernel_rfl
theorem laid : laidOutB Try.prog = true := by kernel_rfl
theorem one64 : Try.prog.cellsOf 3 = 1 := by kernel_rfl

set_option maxRecDepth 100000 in
theorem lifted (os : Os) (started : os.Started) (H : Type) (enc : TypeId × Value → H) :
    ReturnsInHanded {} Try.checked os 8 .any (Rows.l2pThereSpec.pre6 enc Try.prog Try.f8 Rows.l2pThereRow.domain false) (Rows.l2pThereSpec.post enc Try.prog Try.f8 false true false false) := by
  refine returnsInHanded_of_change (C := Try.checked) own started (by kernel_rfl) Try.func8
    (ChangeSpec.witness6 (enc := enc) (C := Try.checked) false ⟨#[], #[.agg #[.int .i64 0, .int .i64 0, .int .i64 0, .int .i64 0, .int .i64 0], .agg #[.int .i64 0, .int .i64 0, .int .i64 0], .int .i64 0], []⟩ 8 (by kernel_rfl) (by kernel_rfl) (by kernel_rfl) (by kernel_rfl)) ?_
  intro W base args ds gs before hval0 hW _ _
  have hval : ∀ (j : Nat) t v, Try.f8.params[j]? = some t → args[j]? = some v → Value.okWide Try.prog W .any base t v := hval0
  have hW' := hW
  obtain ⟨p, q, hA0, hV, rfl, hfz, hnd⟩ := hW
  have hA : DataW.TrodAll enc Try.prog W 0 (fun _ => true) true Try.f8.params.toList args.toList ds p := hA0
  rw [Try.params8] at hA hval
  obtain ⟨v0, v1, v2, d0, d1, d2, p0, p1, p2, rfl, rfl, rfl, h0, h1, h2⟩ := trodAll_three hA
  obtain ⟨c0, l0, k0, q0, s0, rfl⟩ := open_geo Try.underlying23 rfl (by kernel_rfl) (by kernel_rfl) (hval 0 23 v0 rfl rfl) h0
  obtain ⟨y1, z1, t1, rfl⟩ := open_ints3 Try.underlying58 (by kernel_rfl) Try.underlying3 one64 (hval 1 58 v1 rfl rfl) h1
  obtain ⟨a2, rfl, rfl, rfl, wf2⟩ := open_int Try.underlying3 (hval 2 3 v2 rfl rfl) h2
  have hb2 : -9223372036854775808 ≤ a2 ∧ a2 ≤ 9223372036854775807 := by simpa [Lit.wf, IntKind.min, IntKind.max, IntKind.signed, IntKind.bits] using wf2
  refine (walk c0 l0 k0 q0 s0 y1 z1 t1 a2 W hb2.1 hb2.2).mono fun e W' ⟨he, hb⟩ => ?_
  subst he
  exact ⟨_, rfl, Law.post laid (by kernel_rfl) (by kernel_rfl) Try.underlying4 rfl hW' rfl hb⟩

theorem proved : Rows.L2pThereSaid :=
  OpenClaim.holds_of_wide 8 Try.f8 rfl rfl rfl rfl rfl rfl rfl ⟨rfl, rfl, rfl, rfl, rfl⟩ rfl rfl rfl rfl rfl (by kernel_rfl) Try.func8 (by kernel_rfl)
    (of_decide_eq_true (by kernel_rfl)) (by unfold Func.isWrapper; first | (rw [if_pos (by decide +kernel)]; kernel_rfl) | (rw [if_neg (by decide +kernel)]; exact ⟨rfl, rfl⟩))
    (fun os started H enc _ => lifted os started H enc)

end Go.Proofs.Ytpheblblkkclbaa.l2pThere
