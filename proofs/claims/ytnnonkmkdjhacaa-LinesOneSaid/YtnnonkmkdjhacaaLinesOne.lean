/-
  LinesOne holds: behind any calls at most one line is open, each is in one state, and the rooms together are the capacity, which never grows; for whatever came in. No condition.
-/
import Derived.Test.YtnnonkmkdjhacaaLinesBegin
import Derived.Test.YtnnonkmkdjhacaaLawKit
import Derived.Test.YtnnonkmkdjhacaaStructs
import Derived.OpenShut
import Derived.Test.YtnnonkmkdjhacaaLinesMore
import Derived.Test.YtnnonkmkdjhacaaHeld
import Derived.Deep.DeepCutAuto
import Derived.Deep.CutBlock
import Derived.Test.YtnnonkmkdjhacaaLinesDoes
namespace Go.Proofs.Ytnnonkmkdjhacaa.linesOne
open Go.RowKit Go.ChangeShapes Go.WideShapes Lines LinesPkg LinesLaw
open Nand (Shape upd)
set_option maxRecDepth 4000

theorem gcell {w w' : World} {b : Nat} {c l k p s : Int} (h : Geo w b c l k p s) (hb : Below w.heap.size w w') : w'.cell? ⟨b, 2, none⟩ = some (.int .i64 k) := (geo_keep h hb).2.2.1
theorem ycells {w : World} {b : Nat} {x0 x1 x2 x3 x4 : Value} {t : TypeId} (h : w.heap[b]? = some (.cells #[x0, x1, x2, x3, x4] t (0, 0))) : w.cell? ⟨b, 0, none⟩ = some x0 ∧ w.cell? ⟨b, 2, none⟩ = some x2 ∧ w.cell? ⟨b, 4, none⟩ = some x4 := by
  obtain ⟨a, _, b, _, c⟩ := cells5' h
  exact ⟨a, b, c⟩

set_option maxHeartbeats 8000000 in
theorem walk (c l k p s : Int) (A1 : Option Addr) (n1 c1 : Nat) (zs1 : List Int) (A2 : Option Addr) (n2 c2 : Nat) (zs2 : List Int) (A : Option Addr) (m cp : Nat) (w : World) (hset1 : n1 ≤ c1 ∧ c1 ≤ maxLen ∧ Nums w w.heap.size A1 n1 zs1) (hset2 : n2 ≤ c2 ∧ c2 ≤ maxLen ∧ Nums w w.heap.size A2 n2 zs2) (hmc : m ≤ cp) (hcm : cp ≤ maxLen) (hr : LinesOps.Ops w w.heap.size A m) :
    Calls Try.prog 6 #[.agg #[.int .i64 c, .int .i64 l, .int .i64 k, .int .i64 p, .int .i64 s], .agg #[.slice A1 n1 c1, .slice A2 n2 c2], .slice A m cp] w fun e w' => e = .returned (.bool true) ∧ Below w.heap.size w w' := by
  obtain ⟨q1, q2, hr1⟩ := hset1
  obtain ⟨q3, q4, hr2⟩ := hset2
  have hn1 := Nat.le_trans q1 q2
  have hn2 := Nat.le_trans q3 q4
  unfold maxLen at hn1 hn2
  clear q1 q2 q3 q4
  have HOPS := Lib.hid hr
  have hm := Nat.le_trans hmc hcm
  unfold maxLen at hm
  clear hr hmc hcm
  rcases New_split c l k p s A1 n1 c1 zs1 A2 n2 c2 zs2 w hr1 hr2 with hN | ⟨G, hG, rfl, rfl, rfl, rfl, rfl, h21, hnk, hf1, hf2⟩
  · have HN := Lib.hid hN
    clear hN
    obtain ⟨og, hog⟩ : ∃ o, o = Obj.cells #[.int .i64 c, .int .i64 l, .int .i64 k, .int .i64 p, .int .i64 s] 23 := ⟨_, rfl⟩
    obtain ⟨os, hos⟩ : ∃ o, o = Obj.cells #[.slice A1 n1 c1, .slice A2 n2 c2] 36 := ⟨_, rfl⟩
    obtain ⟨a, ha⟩ : ∃ a, a = (w.alloc og).alloc os := ⟨_, rfl⟩
    have hwa : Below w.heap.size w a := by rw [ha]; exact ((Below.refl _ _).alloc (Nat.le_refl _) _).alloc (by simp) _
    have hgeo : Geo a w.heap.size c l k p s := by rw [ha, hog]; exact geo_keep (geo_new w _ _ _ _ _ _) ((Below.refl _ _).alloc (Nat.le_refl _) _)
    have hset : a.heap[w.heap.size + 1]? = some (.cells #[.slice A1 n1 c1, .slice A2 n2 c2] 36 (0, 0)) := by
      have := heap_alloc_new (w.alloc og) (.cells #[.slice A1 n1 c1, .slice A2 n2 c2] 36)
      rw [World.size_alloc] at this
      rw [ha, hos]
      exact this
    have HWA := Lib.hid hwa
    have HGEO := Lib.hid hgeo
    have HSET := Lib.hid hset
    have HA0 := Lib.hid ha
    have HAW := Lib.hid (fun w => awake_any w)
    have HBW := Lib.hid (fun (w' : World) (hb : Below a.heap.size a w') => show Below w.heap.size w w' from hwa.trans (hb.mono hwa.size))
    have HR1 := Lib.hid hr1
    have HR2 := Lib.hid hr2
    clear hwa hgeo hset ha hr1 hr2
    go_enter Try.func6, Try.ntmps6
    go_wp2_with fail
    rw [← hog, ← hos, ← HA0.out]
    refine (HAW.out a).mono ?_
    rintro e1 wa ⟨rfl, hb⟩
    have HA := Lib.hid hb
    clear hb
    obtain ⟨k0, k1, k2, k3, k4⟩ := geo_keep HGEO.out HA.out
    obtain ⟨s0, s1⟩ := cells2 ((HA.out.block _ (Array.getElem?_eq_some_iff.1 HSET.out).1).trans HSET.out)
    go_wp2_with fail
    refine (HN.out wa (HBW.out _ HA.out)).mono ?_
    rintro e2 w2 ⟨rfl, hb⟩
    have HB2 := Lib.hid (below_then HA.out hb)
    clear hb k0 k1 k2 k3 k4 s0 s1
    go_wp2
    go_ret
    exact ⟨rfl, HBW.out _ HB2.out⟩
  subst n2
  have HNW := Lib.hid (fun (a w' : World) (h1 : Below a.heap.size a w') (h2 : Below w.heap.size w w') => New_m hG A1 n1 c1 A2 c2 zs1 zs2 a w' h1 (nums_more (nums_keep hr1 h2) h2.size) hf1 (nums_more (nums_keep hr2 h2) h2.size) hf2)
  have HST := Lib.hid (start_is zs1 zs2)
  generalize LinesPkg.start zs1 zs2 = f at HNW HST
  have HGK := Lib.hid hG
  clear hG hf1 hf2
  obtain ⟨og, hog⟩ : ∃ o, o = Obj.cells #[.int .i64 G.c, .int .i64 G.l, .int .i64 G.k, .int .i64 G.p, .int .i64 G.s] 23 := ⟨_, rfl⟩
  obtain ⟨os, hos⟩ : ∃ o, o = Obj.cells #[.slice A1 n1 c1, .slice A2 n1 c2] 36 := ⟨_, rfl⟩
  obtain ⟨a, ha⟩ : ∃ a, a = (w.alloc og).alloc os := ⟨_, rfl⟩
  have hwa : Below w.heap.size w a := by rw [ha]; exact ((Below.refl _ _).alloc (Nat.le_refl _) _).alloc (by simp) _
  have hgeo : Geo a w.heap.size G.c G.l G.k G.p G.s := by rw [ha, hog]; exact geo_keep (geo_new w _ _ _ _ _ _) ((Below.refl _ _).alloc (Nat.le_refl _) _)
  have hset : a.heap[w.heap.size + 1]? = some (.cells #[.slice A1 n1 c1, .slice A2 n1 c2] 36 (0, 0)) := by
    have := heap_alloc_new (w.alloc og) (.cells #[.slice A1 n1 c1, .slice A2 n1 c2] 36)
    rw [World.size_alloc] at this
    rw [ha, hos]
    exact this
  have HWA := Lib.hid hwa
  have HGEO := Lib.hid hgeo
  have HSET := Lib.hid hset
  have HA0 := Lib.hid ha
  have HAW := Lib.hid (fun w => awake_any w)
  have HBW := Lib.hid (fun (w' : World) (hb : Below a.heap.size a w') => show Below w.heap.size w w' from hwa.trans (hb.mono hwa.size))
  have HR1 := Lib.hid hr1
  have HR2 := Lib.hid hr2
  clear hwa hgeo hset ha hr1 hr2
  go_enter Try.func6, Try.ntmps6
  go_wp2_with fail
  rw [← hog, ← hos, ← HA0.out]
  refine (HAW.out a).mono ?_
  rintro e1 wa ⟨rfl, hb⟩
  have HA := Lib.hid hb
  clear hb
  obtain ⟨k0, k1, k2, k3, k4⟩ := geo_keep HGEO.out HA.out
  obtain ⟨s0, s1⟩ := cells2 ((HA.out.block _ (Array.getElem?_eq_some_iff.1 HSET.out).1).trans HSET.out)
  have HNX := Lib.hid (HNW.out a wa HA.out (HBW.out _ HA.out))
  clear HNW
  go_wp2_with fail
  refine HNX.out.mono ?_
  rintro e2 w2 ⟨gd, rfl, h⟩
  have H := Lib.hid h
  clear h HNX k0 k1 k2 k3 k4 s0 s1
  have HLE : Hid (cap G f n1 ≤ cap G f n1) := Lib.hid (Int.le_refl _)
  have HB0 := Lib.hid (cap_bd HGK.out (fun i hi => H.out.inv.1.gd i hi) n1 (Nat.le_refl _))
  have HN := Lib.hid H.out.inv
  have hk64 := HN.out.2.2.1
  have hk0 := HN.out.2.2.2.1
  have hkG := HN.out.2.1
  have HP := Lib.hid (Capacity_m H.out)
  generalize hZ : cap G f n1 = Z0 at HP HB0
  go_wp2_with fail
  refine HP.out.mono ?_
  rintro e3 w3 ⟨rfl, h, _⟩
  replace H := Lib.hid h
  have HZ0 := Lib.hid hZ
  clear h HP HLE hZ HN
  go_wp2_with fail
  go_loopw [10, 11, 12, 13, 14, 15, 16] (fun z i _ _ _ _ _ wr => ∃ (j : Nat) (f : St) (Z : Int), i = .int .i64 (j : Int) ∧ z = .int .i64 Z ∧ j ≤ m ∧ cap G f n1 ≤ Z ∧ Mine G n1 a gd f [] wr) (fun _ i _ _ _ _ _ _ => m - (intOf i).toNat)
  case atStart => exact ⟨0, f, Z0, rfl, rfl, by omega, by rw [HZ0.out]; exact Int.le_refl _, H.out⟩
  case round =>
    clear H HZ0 HB0 HST
    obtain ⟨j, f, Z, rfl, rfl, hj, hle, h⟩ := hrel
    have H := Lib.hid h
    have HLE := Lib.hid hle
    clear h hle
    have HINV := Lib.hid H.out.inv.1
    by_cases hgo : j < m ∧ j < 100
    rotate_left
    · have hstop : decide (j < m) = false ∨ (decide (j < m) = true ∧ decide ((j : Int) < 100) = false) := by
        by_cases h : j < m
        · exact .inr ⟨decide_eq_true (by omega), decide_eq_false (by omega)⟩
        · exact .inl (decide_eq_false (by omega))
      clear hgo
      rcases hstop with h1 | ⟨h1, h2⟩
      all_goals
        go_wp2
        go_ret
        exact ⟨rfl, HBW.out _ H.out.below⟩
    obtain ⟨hlt, hlt2⟩ := hgo
    obtain ⟨b, off, x0, x1, own, rfl, ho⟩ := HOPS.out j hlt
    have HOP := Lib.hid (fun (w' : World) (hb : Below a.heap.size a w') => ho.keep (HBW.out _ hb))
    clear ho
    have hlt' : (j : Int) < m := by omega
    obtain ⟨c0, c1', c2', _⟩ := HOP.out _ H.out.below
    go_upto_if 55 with fail
    go_cut [12] (fun nv wx => ∃ N : Int, nv = .int .i64 N ∧ Mine G n1 a gd f [] wx)
    case first =>
      cases own
      · go_wp2_with fail
        go_meet
        exact ⟨_, rfl, H.out⟩
      · have HC := Lib.hid (Current_m H.out)
        generalize cur f n1 = C at HC
        go_wp2_with fail
        refine HC.out.mono ?_
        rintro e4 w4 ⟨rfl, h, _⟩
        replace H := Lib.hid h
        clear h HC
        go_wp2_with fail
        go_meet
        exact ⟨_, rfl, H.out⟩
    case rest =>
    clear H c0 c1' c2'
    obtain ⟨N, rfl, h⟩ := hcut
    have H := Lib.hid h
    clear h
    obtain ⟨c0, c1', c2', _⟩ := HOP.out _ H.out.below
    go_upto_block 2 with fail
    go_cut [63] (fun _ wx => ∃ g : St, Mine G n1 a gd g [] wx ∧ cap G g n1 ≤ Z)
    case first =>
      by_cases hx0 : x0 = 0
      · subst hx0
        have HC := Lib.hid (Open_m H.out)
        unfold LinesPkg.pairV at HC
        generalize openR f n1 = Q at HC
        obtain ⟨q1, q2⟩ := Q
        dsimp only at HC
        go_wp2_with fail
        refine HC.out.mono ?_
        rintro e4 w4 ⟨rfl, h⟩
        replace H := Lib.hid h
        clear h HC
        go_wp2_with fail
        go_meet
        exact ⟨_, H.out, Int.le_trans (cap_open f n1) HLE.out⟩
      by_cases hx1 : x0 = 1
      · subst hx1
        clear hx0
        have HC := Lib.hid (Open_m H.out)
        unfold LinesPkg.pairV at HC
        generalize openR f n1 = Q at HC
        obtain ⟨q1, q2⟩ := Q
        dsimp only at HC
        go_wp2_with fail
        refine HC.out.mono ?_
        rintro e4 w4 ⟨rfl, h⟩
        replace H := Lib.hid h
        clear h HC
        go_wp2_with fail
        go_meet
        exact ⟨_, H.out, Int.le_trans (cap_open f n1) HLE.out⟩
      by_cases hx2 : x0 = 2
      · subst hx2
        clear hx0 hx1
        have HC := Lib.hid (Close_m H.out)
        unfold LinesPkg.pairV at HC
        generalize closeR f n1 = Q at HC
        obtain ⟨q1, q2⟩ := Q
        dsimp only at HC
        go_wp2_with fail
        refine HC.out.mono ?_
        rintro e4 w4 ⟨rfl, h⟩
        replace H := Lib.hid h
        clear h HC
        go_wp2_with fail
        go_meet
        exact ⟨_, H.out, Int.le_trans (cap_close f n1) HLE.out⟩
      by_cases hx3 : x0 = 3
      · subst hx3
        clear hx0 hx1 hx2
        have HC := Lib.hid (Release_m H.out N)
        generalize chg f n1 N 2 = Q at HC
        go_wp2_with fail
        refine HC.out.mono ?_
        rintro e4 w4 ⟨rfl, h⟩
        replace H := Lib.hid h
        clear h HC
        go_wp2_with fail
        go_meet
        exact ⟨_, H.out, Int.le_trans (cap_do (fun _ => rfl)) HLE.out⟩
      by_cases hx4 : x0 = 4
      · subst hx4
        clear hx0 hx1 hx2 hx3
        have HC := Lib.hid (Erased_m H.out N)
        generalize chg f n1 N 1 = Q at HC
        go_wp2_with fail
        refine HC.out.mono ?_
        rintro e4 w4 ⟨rfl, h⟩
        replace H := Lib.hid h
        clear h HC
        go_wp2_with fail
        go_meet
        exact ⟨_, H.out, Int.le_trans (cap_do (fun _ => rfl)) HLE.out⟩
      by_cases hx5 : x0 = 5
      · subst hx5
        clear hx0 hx1 hx2 hx3 hx4
        have HC := Lib.hid (Lose_m H.out N)
        generalize loseE f n1 N = Q at HC
        go_wp2_with fail
        refine HC.out.mono ?_
        rintro e4 w4 ⟨rfl, h⟩
        replace H := Lib.hid h
        clear h HC
        go_wp2_with fail
        go_meet
        exact ⟨_, H.out, Int.le_trans (cap_lose HGK.out HINV.out N) HLE.out⟩
      by_cases hx6 : x0 = 6
      · subst hx6
        clear hx0 hx1 hx2 hx3 hx4 hx5
        have HC := Lib.hid (Use_m H.out N)
        generalize chg f n1 N 0 = Q at HC
        go_wp2_with fail
        refine HC.out.mono ?_
        rintro e4 w4 ⟨rfl, h⟩
        replace H := Lib.hid h
        clear h HC
        go_wp2_with fail
        go_meet
        exact ⟨_, H.out, Int.le_trans (cap_do (fun _ => rfl)) HLE.out⟩
      have b0 : (x0 == 0) = false := by simp; omega
      have b1 : (x0 == 1) = false := by simp; omega
      have b2 : (x0 == 2) = false := by simp; omega
      have b3 : (x0 == 3) = false := by simp; omega
      have b4 : (x0 == 4) = false := by simp; omega
      have b5 : (x0 == 5) = false := by simp; omega
      have b6 : (x0 == 6) = false := by simp; omega
      clear hx0 hx1 hx2 hx3 hx4 hx5 hx6
      go_wp2_with fail
      go_meet
      exact ⟨_, H.out, HLE.out⟩
    case rest =>
    clear H c0 c1' c2' HLE HINV HOP
    clear f
    obtain ⟨f, h, hle⟩ := hcut
    have H := Lib.hid h
    have HLE := Lib.hid hle
    clear h hle
    have HINV := Lib.hid H.out.inv.1
    go_wp2_with fail
    go_loopw [13, 14, 15, 16] (fun z i _ _ wq => ∃ q : Nat, i = .int .i64 (q : Int) ∧ z = .int .i64 (cap G f q) ∧ q ≤ n1 ∧ Mine G n1 a gd f [] wq) (fun _ i _ _ _ => n1 - (intOf i).toNat)
    case atStart => exact ⟨0, rfl, rfl, by omega, H.out⟩
    case round =>
      clear H
      obtain ⟨q, rfl, rfl, hq, h⟩ := hrel
      have H := Lib.hid h
      clear h
      obtain ⟨Y, hY⟩ : ∃ Y, Y = cap G f q := ⟨_, rfl⟩
      have hY01 := cap_bd HGK.out (fun i hi => HINV.out.gd i hi) q hq
      rw [← hY] at hY01 ⊢
      obtain ⟨k0, k1, k2, k3, k4⟩ := geo_keep HGEO.out H.out.below
      by_cases hql : q < n1
      · have hql' : (q : Int) < G.k := by omega
        have hq64 : (q : Int) < 64 := by omega
        have HC := Lib.hid (geti_m H.out q hql)
        have hgd := HINV.out.gd q hql
        have hrb := room_bd HGK.out hgd.1 hgd.2
        have hfr := HINV.out.free q hql
        have hcu := cur_iff HINV.out hql
        have HCAP := Lib.hid (show cap G f (q + 1) = Y + room G (f q).gd by rw [hY]; rfl)
        have hr0 : (f q).gd = 0 → room G (f q).gd = 0 := fun e => by unfold room; rw [if_pos e]
        obtain ⟨x, hx⟩ : ∃ x, x = f q := ⟨_, rfl⟩
        unfold lineV at HC
        rw [← hx] at HC hrb hfr hcu hr0 hgd
        obtain ⟨R, hR⟩ : ∃ R, R = room G x.gd := ⟨_, rfl⟩
        rw [← hR] at HC hrb hr0
        have HROOM := Lib.hid (show room G (f q).gd = R by rw [hR, hx])
        clear hY hx hR
        obtain ⟨hR0, hR1, _⟩ := hrb
        obtain ⟨x0, x1, x2⟩ := x
        dsimp only at *
        obtain ⟨hY0, hY1⟩ := hY01
        go_wp2_with fail
        refine HC.out.mono ?_
        rintro e5 w5 ⟨rfl, h, _⟩
        replace H := Lib.hid h
        clear h HC k0 k1 k2 k3 k4
        generalize hCC : cur f n1 = C at hcu
        rcases hcu with hst | hst
        · by_cases hgz : x2 = 0
          · obtain ⟨rfl, rfl⟩ := hst
            obtain rfl : R = 0 := hr0 hgz
            subst hgz
            have hHY := H.out.new #[.int .i64 1, .int .i64 x1, .int .i64 0, .int .i64 0, .int .i64 0] 45
            have HY := Lib.hid (hHY.on (Below.refl _ _).drew)
            have HCC := Lib.hid hCC
            clear hHY hCC hfr hr0 hgd
            go_wp2_with fail
            refine wp_region_held_drew (S := (fun w' => w'.cell? ⟨w5.heap.size, 0, none⟩ = some (.int .i64 1) ∧ w'.cell? ⟨w5.heap.size, 2, none⟩ = some (.int .i64 0) ∧ w'.cell? ⟨w5.heap.size, 4, none⟩ = some (.int .i64 0))) (by kernel_rfl) ?_ (fun hHeld => ?_)
            · exact ycells (HY.out.at (.head _))
            refine Hand.held_take (i := 0) (d := 108) (v := ?_) rfl rfl (by kernel_rfl) (by kernel_rfl) (by kernel_rfl) (by rfl) ?_ (by assumption) (fun _ _ _ h => h) ?_
            rotate_left
            · intro w hSw
              go_simp
              with_reducible rfl
            try simp only [Act.put, List.setIfInBounds_toArray, List.set_cons_zero, List.set_cons_succ]
            refine Hand.held_take (i := 1) (d := 109) (v := ?_) rfl rfl (by kernel_rfl) (by kernel_rfl) (by kernel_rfl) (by rfl) ?_ (by assumption) (fun _ _ _ h => h) ?_
            rotate_left
            · intro w hSw
              go_simp
              with_reducible rfl
            try simp only [Act.put, List.setIfInBounds_toArray, List.set_cons_zero, List.set_cons_succ]
            refine Hand.held_take (i := 2) (d := 110) (v := ?_) rfl rfl (by kernel_rfl) (by kernel_rfl) (by kernel_rfl) (by rfl) ?_ (by assumption) (fun _ _ _ h => h) ?_
            rotate_left
            · intro w hSw
              go_simp
              with_reducible rfl
            try simp only [Act.put, List.setIfInBounds_toArray, List.set_cons_zero, List.set_cons_succ]
            refine Hand.held_take (i := 3) (d := 111) (v := ?_) rfl rfl (by kernel_rfl) (by kernel_rfl) (by kernel_rfl) (by rfl) ?_ (by assumption) (fun _ _ _ h => h) ?_
            rotate_left
            · intro w hSw
              go_simp
              with_reducible rfl
            try simp only [Act.put, List.setIfInBounds_toArray, List.set_cons_zero, List.set_cons_succ]
            refine Hand.held_take (i := 4) (d := 112) (v := ?_) rfl rfl (by kernel_rfl) (by kernel_rfl) (by kernel_rfl) (by rfl) ?_ (by assumption) (fun _ _ _ h => h) ?_
            rotate_left
            · intro w hSw
              go_simp
              with_reducible rfl
            try simp only [Act.put, List.setIfInBounds_toArray, List.set_cons_zero, List.set_cons_succ]
            refine Hand.held_take (i := 5) (d := 113) (v := ?_) rfl rfl (by kernel_rfl) (by kernel_rfl) (by kernel_rfl) (by rfl) ?_ (by assumption) (fun _ _ _ h => h) ?_
            rotate_left
            · intro w hSw
              go_simp
              with_reducible rfl
            try simp only [Act.put, List.setIfInBounds_toArray, List.set_cons_zero, List.set_cons_succ]
            refine Hand.held_take (i := 6) (d := 114) (v := ?_) rfl rfl (by kernel_rfl) (by kernel_rfl) (by kernel_rfl) (by rfl) ?_ (by assumption) (fun _ _ _ h => h) ?_
            rotate_left
            · intro w hSw
              go_simp
              with_reducible rfl
            try simp only [Act.put, List.setIfInBounds_toArray, List.set_cons_zero, List.set_cons_succ]
            refine Hand.held_take (i := 7) (d := 115) (v := ?_) rfl rfl (by kernel_rfl) (by kernel_rfl) (by kernel_rfl) (by rfl) ?_ (by assumption) (fun _ _ _ h => h) ?_
            rotate_left
            · intro w hSw
              go_simp
              with_reducible rfl
            try simp only [Act.put, List.setIfInBounds_toArray, List.set_cons_zero, List.set_cons_succ]
            refine wpAnyH_ready (rs := [8]) (by kernel_rfl) (by simp) ?_
            refine AllReadyH.cons rfl (fun K hK => ?_) AllReadyH.nil
            go_simp
            go_wp2_with (refine (Current_m HY.out).mono ?_; rw [HCC.out]; rintro e6 w6 ⟨rfl, h, hb⟩; replace HY := Lib.hid h; clear h)
            refine hK.out _ _ ?_ (fun hHeld => ?_)
            · first | exact ycells (HY.out.at (.head _))
            clear hK K
            clear hb
            refine Hand.held_take (i := 9) (d := 117) (v := ?_) rfl rfl (by kernel_rfl) (by kernel_rfl) (by kernel_rfl) (by rfl) ?_ (by assumption) (fun _ _ _ h => h) ?_
            rotate_left
            · intro w hSw
              go_simp
              with_reducible rfl
            try simp only [Act.put, List.setIfInBounds_toArray, List.set_cons_zero, List.set_cons_succ]
            refine Hand.held_take (i := 10) (d := 118) (v := ?_) rfl rfl (by kernel_rfl) (by kernel_rfl) (by kernel_rfl) (by rfl) ?_ (by assumption) (fun _ _ _ h => h) ?_
            rotate_left
            · intro w hSw
              go_simp
              with_reducible rfl
            try simp only [Act.put, List.setIfInBounds_toArray, List.set_cons_zero, List.set_cons_succ]
            refine Hand.held_take (i := 11) (d := 119) (v := ?_) rfl rfl (by kernel_rfl) (by kernel_rfl) (by kernel_rfl) (by rfl) ?_ (by assumption) (fun _ _ _ h => h) ?_
            rotate_left
            · intro w hSw
              go_simp
              with_reducible rfl
            try simp only [Act.put, List.setIfInBounds_toArray, List.set_cons_zero, List.set_cons_succ]
            refine Hand.held_take (i := 12) (d := 120) (v := ?_) rfl rfl (by kernel_rfl) (by kernel_rfl) (by kernel_rfl) (by rfl) ?_ (by assumption) (fun _ _ _ h => h) ?_
            rotate_left
            · intro w hSw
              go_simp
              with_reducible rfl
            try simp only [Act.put, List.setIfInBounds_toArray, List.set_cons_zero, List.set_cons_succ]
            refine Hand.held_take (i := 13) (d := 121) (v := ?_) rfl rfl (by kernel_rfl) (by kernel_rfl) (by kernel_rfl) (by rfl) ?_ (by assumption) (fun _ _ _ h => h) ?_
            rotate_left
            · intro w hSw
              go_simp
              with_reducible rfl
            try simp only [Act.put, List.setIfInBounds_toArray, List.set_cons_zero, List.set_cons_succ]
            refine Hand.held_take (i := 14) (d := 122) (v := ?_) rfl rfl (by kernel_rfl) (by kernel_rfl) (by kernel_rfl) (by rfl) ?_ (by assumption) (fun _ _ _ h => h) ?_
            rotate_left
            · intro w hSw
              go_simp
              with_reducible rfl
            try simp only [Act.put, List.setIfInBounds_toArray, List.set_cons_zero, List.set_cons_succ]
            refine Hand.held_take (i := 15) (d := 123) (v := ?_) rfl rfl (by kernel_rfl) (by kernel_rfl) (by kernel_rfl) (by rfl) ?_ (by assumption) (fun _ _ _ h => h) ?_
            rotate_left
            · intro w hSw
              go_simp
              with_reducible rfl
            try simp only [Act.put, List.setIfInBounds_toArray, List.set_cons_zero, List.set_cons_succ]
            refine Hand.held_take (i := 16) (d := 124) (v := ?_) rfl rfl (by kernel_rfl) (by kernel_rfl) (by kernel_rfl) (by rfl) ?_ (by assumption) (fun _ _ _ h => h) ?_
            rotate_left
            · intro w hSw
              go_simp
              with_reducible rfl
            try simp only [Act.put, List.setIfInBounds_toArray, List.set_cons_zero, List.set_cons_succ]
            refine Hand.held_take (i := 17) (d := 125) (v := ?_) rfl rfl (by kernel_rfl) (by kernel_rfl) (by kernel_rfl) (by rfl) ?_ (by assumption) (fun _ _ _ h => h) ?_
            rotate_left
            · intro w hSw
              go_simp
              with_reducible rfl
            try simp only [Act.put, List.setIfInBounds_toArray, List.set_cons_zero, List.set_cons_succ]
            refine Hand.held_take (i := 18) (d := 126) (v := ?_) rfl rfl (by kernel_rfl) (by kernel_rfl) (by kernel_rfl) (by rfl) ?_ (by assumption) (fun _ _ _ h => h) ?_
            rotate_left
            · intro w hSw
              go_simp
              with_reducible rfl
            try simp only [Act.put, List.setIfInBounds_toArray, List.set_cons_zero, List.set_cons_succ]
            refine Hand.held_take (i := 19) (d := 127) (v := ?_) rfl rfl (by kernel_rfl) (by kernel_rfl) (by kernel_rfl) (by rfl) ?_ (by assumption) (fun _ _ _ h => h) ?_
            rotate_left
            · intro w hSw
              go_simp
              with_reducible rfl
            try simp only [Act.put, List.setIfInBounds_toArray, List.set_cons_zero, List.set_cons_succ]
            refine Hand.held_take (i := 20) (d := 128) (v := ?_) rfl rfl (by kernel_rfl) (by kernel_rfl) (by kernel_rfl) (by rfl) ?_ (by assumption) (fun _ _ _ h => h) ?_
            rotate_left
            · intro w hSw
              go_simp
              with_reducible rfl
            try simp only [Act.put, List.setIfInBounds_toArray, List.set_cons_zero, List.set_cons_succ]
            refine Hand.held_take (i := 21) (d := 129) (v := ?_) rfl rfl (by kernel_rfl) (by kernel_rfl) (by kernel_rfl) (by rfl) ?_ (by assumption) (fun _ _ _ h => h) ?_
            rotate_left
            · intro w hSw
              go_simp
              with_reducible rfl
            try simp only [Act.put, List.setIfInBounds_toArray, List.set_cons_zero, List.set_cons_succ]
            refine Hand.held_take (i := 22) (d := 130) (v := ?_) rfl rfl (by kernel_rfl) (by kernel_rfl) (by kernel_rfl) (by rfl) ?_ (by assumption) (fun _ _ _ h => h) ?_
            rotate_left
            · intro w hSw
              go_simp
              with_reducible rfl
            try simp only [Act.put, List.setIfInBounds_toArray, List.set_cons_zero, List.set_cons_succ]
            refine Hand.held_take (i := 23) (d := 131) (v := ?_) rfl rfl (by kernel_rfl) (by kernel_rfl) (by kernel_rfl) (by rfl) ?_ (by assumption) (fun _ _ _ h => h) ?_
            rotate_left
            · intro w hSw
              go_simp
              with_reducible rfl
            try simp only [Act.put, List.setIfInBounds_toArray, List.set_cons_zero, List.set_cons_succ]
            refine Hand.held_take (i := 24) (d := 132) (v := ?_) rfl rfl (by kernel_rfl) (by kernel_rfl) (by kernel_rfl) (by rfl) ?_ (by assumption) (fun _ _ _ h => h) ?_
            rotate_left
            · intro w hSw
              go_simp
              with_reducible rfl
            try simp only [Act.put, List.setIfInBounds_toArray, List.set_cons_zero, List.set_cons_succ]
            refine Hand.held_take (i := 25) (d := 133) (v := ?_) rfl rfl (by kernel_rfl) (by kernel_rfl) (by kernel_rfl) (by rfl) ?_ (by assumption) (fun _ _ _ h => h) ?_
            rotate_left
            · intro w hSw
              go_simp
              with_reducible rfl
            try simp only [Act.put, List.setIfInBounds_toArray, List.set_cons_zero, List.set_cons_succ]
            refine Hand.held_take (i := 26) (d := 134) (v := ?_) rfl rfl (by kernel_rfl) (by kernel_rfl) (by kernel_rfl) (by rfl) ?_ (by assumption) (fun _ _ _ h => h) ?_
            rotate_left
            · intro w hSw
              go_simp
              with_reducible rfl
            try simp only [Act.put, List.setIfInBounds_toArray, List.set_cons_zero, List.set_cons_succ]
            refine wpAnyH_done (by kernel_rfl) ?_ _
            clear hHeld
            obtain ⟨y0, y1, y2, y3, y4⟩ := cells5' (HY.out.at (.head _))
            go_wp2
            go_roundw
            case rel => exact ⟨q + 1, by go_num, by rw [HCAP.out, HROOM.out, Int.add_zero], by omega, HY.out.drop⟩
            case measure => simp [intOf]; omega
          · obtain ⟨rfl, rfl⟩ := hst
            have hg0 : (x2 == 0) = false := by simp; omega
            have hHY := H.out.new #[.int .i64 1, .int .i64 x1, .int .i64 x2, .int .i64 0, .int .i64 R] 45
            have HY := Lib.hid (hHY.on (Below.refl _ _).drew)
            have HCC := Lib.hid hCC
            clear hHY hCC hfr hr0 hgd
            go_wp2_with fail
            refine wp_region_held_drew (S := (fun w' => w'.cell? ⟨w5.heap.size, 0, none⟩ = some (.int .i64 1) ∧ w'.cell? ⟨w5.heap.size, 2, none⟩ = some (.int .i64 x2) ∧ w'.cell? ⟨w5.heap.size, 4, none⟩ = some (.int .i64 R))) (by kernel_rfl) ?_ (fun hHeld => ?_)
            · exact ycells (HY.out.at (.head _))
            refine Hand.held_take (i := 0) (d := 108) (v := ?_) rfl rfl (by kernel_rfl) (by kernel_rfl) (by kernel_rfl) (by rfl) ?_ (by assumption) (fun _ _ _ h => h) ?_
            rotate_left
            · intro w hSw
              go_simp
              with_reducible rfl
            try simp only [Act.put, List.setIfInBounds_toArray, List.set_cons_zero, List.set_cons_succ]
            refine Hand.held_take (i := 1) (d := 109) (v := ?_) rfl rfl (by kernel_rfl) (by kernel_rfl) (by kernel_rfl) (by rfl) ?_ (by assumption) (fun _ _ _ h => h) ?_
            rotate_left
            · intro w hSw
              go_simp
              with_reducible rfl
            try simp only [Act.put, List.setIfInBounds_toArray, List.set_cons_zero, List.set_cons_succ]
            refine Hand.held_take (i := 2) (d := 110) (v := ?_) rfl rfl (by kernel_rfl) (by kernel_rfl) (by kernel_rfl) (by rfl) ?_ (by assumption) (fun _ _ _ h => h) ?_
            rotate_left
            · intro w hSw
              go_simp
              with_reducible rfl
            try simp only [Act.put, List.setIfInBounds_toArray, List.set_cons_zero, List.set_cons_succ]
            refine Hand.held_take (i := 3) (d := 111) (v := ?_) rfl rfl (by kernel_rfl) (by kernel_rfl) (by kernel_rfl) (by rfl) ?_ (by assumption) (fun _ _ _ h => h) ?_
            rotate_left
            · intro w hSw
              go_simp
              with_reducible rfl
            try simp only [Act.put, List.setIfInBounds_toArray, List.set_cons_zero, List.set_cons_succ]
            refine Hand.held_take (i := 4) (d := 112) (v := ?_) rfl rfl (by kernel_rfl) (by kernel_rfl) (by kernel_rfl) (by rfl) ?_ (by assumption) (fun _ _ _ h => h) ?_
            rotate_left
            · intro w hSw
              go_simp
              with_reducible rfl
            try simp only [Act.put, List.setIfInBounds_toArray, List.set_cons_zero, List.set_cons_succ]
            refine Hand.held_take (i := 5) (d := 113) (v := ?_) rfl rfl (by kernel_rfl) (by kernel_rfl) (by kernel_rfl) (by rfl) ?_ (by assumption) (fun _ _ _ h => h) ?_
            rotate_left
            · intro w hSw
              go_simp
              with_reducible rfl
            try simp only [Act.put, List.setIfInBounds_toArray, List.set_cons_zero, List.set_cons_succ]
            refine Hand.held_take (i := 6) (d := 114) (v := ?_) rfl rfl (by kernel_rfl) (by kernel_rfl) (by kernel_rfl) (by rfl) ?_ (by assumption) (fun _ _ _ h => h) ?_
            rotate_left
            · intro w hSw
              go_simp
              with_reducible rfl
            try simp only [Act.put, List.setIfInBounds_toArray, List.set_cons_zero, List.set_cons_succ]
            refine Hand.held_take (i := 7) (d := 115) (v := ?_) rfl rfl (by kernel_rfl) (by kernel_rfl) (by kernel_rfl) (by rfl) ?_ (by assumption) (fun _ _ _ h => h) ?_
            rotate_left
            · intro w hSw
              go_simp
              with_reducible rfl
            try simp only [Act.put, List.setIfInBounds_toArray, List.set_cons_zero, List.set_cons_succ]
            refine wpAnyH_ready (rs := [8]) (by kernel_rfl) (by simp) ?_
            refine AllReadyH.cons rfl (fun K hK => ?_) AllReadyH.nil
            go_simp
            go_wp2_with (refine (Current_m HY.out).mono ?_; rw [HCC.out]; rintro e6 w6 ⟨rfl, h, hb⟩; replace HY := Lib.hid h; clear h)
            refine hK.out _ _ ?_ (fun hHeld => ?_)
            · first | exact ycells (HY.out.at (.head _))
            clear hK K
            clear hb
            refine Hand.held_take (i := 9) (d := 117) (v := ?_) rfl rfl (by kernel_rfl) (by kernel_rfl) (by kernel_rfl) (by rfl) ?_ (by assumption) (fun _ _ _ h => h) ?_
            rotate_left
            · intro w hSw
              go_simp
              with_reducible rfl
            try simp only [Act.put, List.setIfInBounds_toArray, List.set_cons_zero, List.set_cons_succ]
            refine Hand.held_take (i := 10) (d := 118) (v := ?_) rfl rfl (by kernel_rfl) (by kernel_rfl) (by kernel_rfl) (by rfl) ?_ (by assumption) (fun _ _ _ h => h) ?_
            rotate_left
            · intro w hSw
              go_simp
              with_reducible rfl
            try simp only [Act.put, List.setIfInBounds_toArray, List.set_cons_zero, List.set_cons_succ]
            refine Hand.held_take (i := 11) (d := 119) (v := ?_) rfl rfl (by kernel_rfl) (by kernel_rfl) (by kernel_rfl) (by rfl) ?_ (by assumption) (fun _ _ _ h => h) ?_
            rotate_left
            · intro w hSw
              go_simp
              with_reducible rfl
            try simp only [Act.put, List.setIfInBounds_toArray, List.set_cons_zero, List.set_cons_succ]
            refine Hand.held_take (i := 12) (d := 120) (v := ?_) rfl rfl (by kernel_rfl) (by kernel_rfl) (by kernel_rfl) (by rfl) ?_ (by assumption) (fun _ _ _ h => h) ?_
            rotate_left
            · intro w hSw
              go_simp
              with_reducible rfl
            try simp only [Act.put, List.setIfInBounds_toArray, List.set_cons_zero, List.set_cons_succ]
            refine Hand.held_take (i := 13) (d := 121) (v := ?_) rfl rfl (by kernel_rfl) (by kernel_rfl) (by kernel_rfl) (by rfl) ?_ (by assumption) (fun _ _ _ h => h) ?_
            rotate_left
            · intro w hSw
              go_simp
              with_reducible rfl
            try simp only [Act.put, List.setIfInBounds_toArray, List.set_cons_zero, List.set_cons_succ]
            refine Hand.held_take (i := 14) (d := 122) (v := ?_) rfl rfl (by kernel_rfl) (by kernel_rfl) (by kernel_rfl) (by rfl) ?_ (by assumption) (fun _ _ _ h => h) ?_
            rotate_left
            · intro w hSw
              go_simp
              with_reducible rfl
            try simp only [Act.put, List.setIfInBounds_toArray, List.set_cons_zero, List.set_cons_succ]
            refine Hand.held_take (i := 15) (d := 123) (v := ?_) rfl rfl (by kernel_rfl) (by kernel_rfl) (by kernel_rfl) (by rfl) ?_ (by assumption) (fun _ _ _ h => h) ?_
            rotate_left
            · intro w hSw
              go_simp
              with_reducible rfl
            try simp only [Act.put, List.setIfInBounds_toArray, List.set_cons_zero, List.set_cons_succ]
            refine Hand.held_take (i := 16) (d := 124) (v := ?_) rfl rfl (by kernel_rfl) (by kernel_rfl) (by kernel_rfl) (by rfl) ?_ (by assumption) (fun _ _ _ h => h) ?_
            rotate_left
            · intro w hSw
              go_simp
              with_reducible rfl
            try simp only [Act.put, List.setIfInBounds_toArray, List.set_cons_zero, List.set_cons_succ]
            refine Hand.held_skip (i := 17) (d := 125) rfl rfl (by kernel_rfl) (by kernel_rfl) (by kernel_rfl) (by rfl) (by assumption) (fun _ _ _ h => h) ?_
            try simp only [Act.put, List.setIfInBounds_toArray, List.set_cons_zero, List.set_cons_succ]
            refine Hand.held_skip (i := 18) (d := 126) rfl rfl (by kernel_rfl) (by kernel_rfl) (by kernel_rfl) (by rfl) (by assumption) (fun _ _ _ h => h) ?_
            try simp only [Act.put, List.setIfInBounds_toArray, List.set_cons_zero, List.set_cons_succ]
            refine Hand.held_skip (i := 19) (d := 127) rfl rfl (by kernel_rfl) (by kernel_rfl) (by kernel_rfl) (by rfl) (by assumption) (fun _ _ _ h => h) ?_
            try simp only [Act.put, List.setIfInBounds_toArray, List.set_cons_zero, List.set_cons_succ]
            refine Hand.held_skip (i := 20) (d := 128) rfl rfl (by kernel_rfl) (by kernel_rfl) (by kernel_rfl) (by rfl) (by assumption) (fun _ _ _ h => h) ?_
            try simp only [Act.put, List.setIfInBounds_toArray, List.set_cons_zero, List.set_cons_succ]
            refine Hand.held_skip (i := 21) (d := 129) rfl rfl (by kernel_rfl) (by kernel_rfl) (by kernel_rfl) (by rfl) (by assumption) (fun _ _ _ h => h) ?_
            try simp only [Act.put, List.setIfInBounds_toArray, List.set_cons_zero, List.set_cons_succ]
            refine Hand.held_skip (i := 22) (d := 130) rfl rfl (by kernel_rfl) (by kernel_rfl) (by kernel_rfl) (by rfl) (by assumption) (fun _ _ _ h => h) ?_
            try simp only [Act.put, List.setIfInBounds_toArray, List.set_cons_zero, List.set_cons_succ]
            refine Hand.held_skip (i := 23) (d := 131) rfl rfl (by kernel_rfl) (by kernel_rfl) (by kernel_rfl) (by rfl) (by assumption) (fun _ _ _ h => h) ?_
            try simp only [Act.put, List.setIfInBounds_toArray, List.set_cons_zero, List.set_cons_succ]
            refine Hand.held_skip (i := 24) (d := 132) rfl rfl (by kernel_rfl) (by kernel_rfl) (by kernel_rfl) (by rfl) (by assumption) (fun _ _ _ h => h) ?_
            try simp only [Act.put, List.setIfInBounds_toArray, List.set_cons_zero, List.set_cons_succ]
            refine Hand.held_take (i := 25) (d := 133) (v := ?_) rfl rfl (by kernel_rfl) (by kernel_rfl) (by kernel_rfl) (by rfl) ?_ (by assumption) (fun _ _ _ h => h) ?_
            rotate_left
            · intro w hSw
              go_simp
              with_reducible rfl
            try simp only [Act.put, List.setIfInBounds_toArray, List.set_cons_zero, List.set_cons_succ]
            refine Hand.held_take (i := 26) (d := 134) (v := ?_) rfl rfl (by kernel_rfl) (by kernel_rfl) (by kernel_rfl) (by rfl) ?_ (by assumption) (fun _ _ _ h => h) ?_
            rotate_left
            · intro w hSw
              go_simp
              with_reducible rfl
            try simp only [Act.put, List.setIfInBounds_toArray, List.set_cons_zero, List.set_cons_succ]
            refine wpAnyH_done (by kernel_rfl) ?_ _
            clear hHeld
            obtain ⟨y0, y1, y2, y3, y4⟩ := cells5' (HY.out.at (.head _))
            go_wp2
            go_roundw
            case rel => exact ⟨q + 1, by go_num, by rw [HCAP.out, HROOM.out], by omega, HY.out.drop⟩
            case measure => simp [intOf]; omega
        · by_cases hgz : x2 = 0
          · have hs1 : (x0 == 1) = false := by simp; omega
            have hk1 : ((q : Int) == C) = false := by simp; omega
            obtain rfl : R = 0 := hr0 hgz
            subst hgz
            have hs0 : (x0 == 0) = false := by simp; omega
            have hHY := H.out.new #[.int .i64 x0, .int .i64 x1, .int .i64 0, .int .i64 0, .int .i64 0] 45
            have HY := Lib.hid (hHY.on (Below.refl _ _).drew)
            have HCC := Lib.hid hCC
            clear hHY hCC hfr hr0 hgd
            go_wp2_with fail
            refine wp_region_held_drew (S := (fun w' => w'.cell? ⟨w5.heap.size, 0, none⟩ = some (.int .i64 x0) ∧ w'.cell? ⟨w5.heap.size, 2, none⟩ = some (.int .i64 0) ∧ w'.cell? ⟨w5.heap.size, 4, none⟩ = some (.int .i64 0))) (by kernel_rfl) ?_ (fun hHeld => ?_)
            · exact ycells (HY.out.at (.head _))
            refine Hand.held_take (i := 0) (d := 108) (v := ?_) rfl rfl (by kernel_rfl) (by kernel_rfl) (by kernel_rfl) (by rfl) ?_ (by assumption) (fun _ _ _ h => h) ?_
            rotate_left
            · intro w hSw
              go_simp
              with_reducible rfl
            try simp only [Act.put, List.setIfInBounds_toArray, List.set_cons_zero, List.set_cons_succ]
            refine Hand.held_take (i := 1) (d := 109) (v := ?_) rfl rfl (by kernel_rfl) (by kernel_rfl) (by kernel_rfl) (by rfl) ?_ (by assumption) (fun _ _ _ h => h) ?_
            rotate_left
            · intro w hSw
              go_simp
              with_reducible rfl
            try simp only [Act.put, List.setIfInBounds_toArray, List.set_cons_zero, List.set_cons_succ]
            refine Hand.held_take (i := 2) (d := 110) (v := ?_) rfl rfl (by kernel_rfl) (by kernel_rfl) (by kernel_rfl) (by rfl) ?_ (by assumption) (fun _ _ _ h => h) ?_
            rotate_left
            · intro w hSw
              go_simp
              with_reducible rfl
            try simp only [Act.put, List.setIfInBounds_toArray, List.set_cons_zero, List.set_cons_succ]
            refine Hand.held_take (i := 3) (d := 111) (v := ?_) rfl rfl (by kernel_rfl) (by kernel_rfl) (by kernel_rfl) (by rfl) ?_ (by assumption) (fun _ _ _ h => h) ?_
            rotate_left
            · intro w hSw
              go_simp
              with_reducible rfl
            try simp only [Act.put, List.setIfInBounds_toArray, List.set_cons_zero, List.set_cons_succ]
            refine Hand.held_take (i := 4) (d := 112) (v := ?_) rfl rfl (by kernel_rfl) (by kernel_rfl) (by kernel_rfl) (by rfl) ?_ (by assumption) (fun _ _ _ h => h) ?_
            rotate_left
            · intro w hSw
              go_simp
              with_reducible rfl
            try simp only [Act.put, List.setIfInBounds_toArray, List.set_cons_zero, List.set_cons_succ]
            refine Hand.held_take (i := 5) (d := 113) (v := ?_) rfl rfl (by kernel_rfl) (by kernel_rfl) (by kernel_rfl) (by rfl) ?_ (by assumption) (fun _ _ _ h => h) ?_
            rotate_left
            · intro w hSw
              go_simp
              with_reducible rfl
            try simp only [Act.put, List.setIfInBounds_toArray, List.set_cons_zero, List.set_cons_succ]
            refine Hand.held_take (i := 6) (d := 114) (v := ?_) rfl rfl (by kernel_rfl) (by kernel_rfl) (by kernel_rfl) (by rfl) ?_ (by assumption) (fun _ _ _ h => h) ?_
            rotate_left
            · intro w hSw
              go_simp
              with_reducible rfl
            try simp only [Act.put, List.setIfInBounds_toArray, List.set_cons_zero, List.set_cons_succ]
            refine Hand.held_take (i := 7) (d := 115) (v := ?_) rfl rfl (by kernel_rfl) (by kernel_rfl) (by kernel_rfl) (by rfl) ?_ (by assumption) (fun _ _ _ h => h) ?_
            rotate_left
            · intro w hSw
              go_simp
              with_reducible rfl
            try simp only [Act.put, List.setIfInBounds_toArray, List.set_cons_zero, List.set_cons_succ]
            refine wpAnyH_ready (rs := [8]) (by kernel_rfl) (by simp) ?_
            refine AllReadyH.cons rfl (fun K hK => ?_) AllReadyH.nil
            go_simp
            go_wp2_with (refine (Current_m HY.out).mono ?_; rw [HCC.out]; rintro e6 w6 ⟨rfl, h, hb⟩; replace HY := Lib.hid h; clear h)
            refine hK.out _ _ ?_ (fun hHeld => ?_)
            · first | exact ycells (HY.out.at (.head _))
            clear hK K
            clear hb
            refine Hand.held_take (i := 9) (d := 117) (v := ?_) rfl rfl (by kernel_rfl) (by kernel_rfl) (by kernel_rfl) (by rfl) ?_ (by assumption) (fun _ _ _ h => h) ?_
            rotate_left
            · intro w hSw
              go_simp
              with_reducible rfl
            try simp only [Act.put, List.setIfInBounds_toArray, List.set_cons_zero, List.set_cons_succ]
            refine Hand.held_take (i := 10) (d := 118) (v := ?_) rfl rfl (by kernel_rfl) (by kernel_rfl) (by kernel_rfl) (by rfl) ?_ (by assumption) (fun _ _ _ h => h) ?_
            rotate_left
            · intro w hSw
              go_simp
              with_reducible rfl
            try simp only [Act.put, List.setIfInBounds_toArray, List.set_cons_zero, List.set_cons_succ]
            refine Hand.held_take (i := 11) (d := 119) (v := ?_) rfl rfl (by kernel_rfl) (by kernel_rfl) (by kernel_rfl) (by rfl) ?_ (by assumption) (fun _ _ _ h => h) ?_
            rotate_left
            · intro w hSw
              go_simp
              with_reducible rfl
            try simp only [Act.put, List.setIfInBounds_toArray, List.set_cons_zero, List.set_cons_succ]
            refine Hand.held_take (i := 12) (d := 120) (v := ?_) rfl rfl (by kernel_rfl) (by kernel_rfl) (by kernel_rfl) (by rfl) ?_ (by assumption) (fun _ _ _ h => h) ?_
            rotate_left
            · intro w hSw
              go_simp
              with_reducible rfl
            try simp only [Act.put, List.setIfInBounds_toArray, List.set_cons_zero, List.set_cons_succ]
            refine Hand.held_take (i := 13) (d := 121) (v := ?_) rfl rfl (by kernel_rfl) (by kernel_rfl) (by kernel_rfl) (by rfl) ?_ (by assumption) (fun _ _ _ h => h) ?_
            rotate_left
            · intro w hSw
              go_simp
              with_reducible rfl
            try simp only [Act.put, List.setIfInBounds_toArray, List.set_cons_zero, List.set_cons_succ]
            refine Hand.held_take (i := 14) (d := 122) (v := ?_) rfl rfl (by kernel_rfl) (by kernel_rfl) (by kernel_rfl) (by rfl) ?_ (by assumption) (fun _ _ _ h => h) ?_
            rotate_left
            · intro w hSw
              go_simp
              with_reducible rfl
            try simp only [Act.put, List.setIfInBounds_toArray, List.set_cons_zero, List.set_cons_succ]
            refine Hand.held_take (i := 15) (d := 123) (v := ?_) rfl rfl (by kernel_rfl) (by kernel_rfl) (by kernel_rfl) (by rfl) ?_ (by assumption) (fun _ _ _ h => h) ?_
            rotate_left
            · intro w hSw
              go_simp
              with_reducible rfl
            try simp only [Act.put, List.setIfInBounds_toArray, List.set_cons_zero, List.set_cons_succ]
            refine Hand.held_take (i := 16) (d := 124) (v := ?_) rfl rfl (by kernel_rfl) (by kernel_rfl) (by kernel_rfl) (by rfl) ?_ (by assumption) (fun _ _ _ h => h) ?_
            rotate_left
            · intro w hSw
              go_simp
              with_reducible rfl
            try simp only [Act.put, List.setIfInBounds_toArray, List.set_cons_zero, List.set_cons_succ]
            refine Hand.held_take (i := 17) (d := 125) (v := ?_) rfl rfl (by kernel_rfl) (by kernel_rfl) (by kernel_rfl) (by rfl) ?_ (by assumption) (fun _ _ _ h => h) ?_
            rotate_left
            · intro w hSw
              go_simp
              with_reducible rfl
            try simp only [Act.put, List.setIfInBounds_toArray, List.set_cons_zero, List.set_cons_succ]
            refine Hand.held_take (i := 18) (d := 126) (v := ?_) rfl rfl (by kernel_rfl) (by kernel_rfl) (by kernel_rfl) (by rfl) ?_ (by assumption) (fun _ _ _ h => h) ?_
            rotate_left
            · intro w hSw
              go_simp
              with_reducible rfl
            try simp only [Act.put, List.setIfInBounds_toArray, List.set_cons_zero, List.set_cons_succ]
            refine Hand.held_take (i := 19) (d := 127) (v := ?_) rfl rfl (by kernel_rfl) (by kernel_rfl) (by kernel_rfl) (by rfl) ?_ (by assumption) (fun _ _ _ h => h) ?_
            rotate_left
            · intro w hSw
              go_simp
              with_reducible rfl
            try simp only [Act.put, List.setIfInBounds_toArray, List.set_cons_zero, List.set_cons_succ]
            refine Hand.held_take (i := 20) (d := 128) (v := ?_) rfl rfl (by kernel_rfl) (by kernel_rfl) (by kernel_rfl) (by rfl) ?_ (by assumption) (fun _ _ _ h => h) ?_
            rotate_left
            · intro w hSw
              go_simp
              with_reducible rfl
            try simp only [Act.put, List.setIfInBounds_toArray, List.set_cons_zero, List.set_cons_succ]
            refine Hand.held_take (i := 21) (d := 129) (v := ?_) rfl rfl (by kernel_rfl) (by kernel_rfl) (by kernel_rfl) (by rfl) ?_ (by assumption) (fun _ _ _ h => h) ?_
            rotate_left
            · intro w hSw
              go_simp
              with_reducible rfl
            try simp only [Act.put, List.setIfInBounds_toArray, List.set_cons_zero, List.set_cons_succ]
            refine Hand.held_take (i := 22) (d := 130) (v := ?_) rfl rfl (by kernel_rfl) (by kernel_rfl) (by kernel_rfl) (by rfl) ?_ (by assumption) (fun _ _ _ h => h) ?_
            rotate_left
            · intro w hSw
              go_simp
              with_reducible rfl
            try simp only [Act.put, List.setIfInBounds_toArray, List.set_cons_zero, List.set_cons_succ]
            refine Hand.held_take (i := 23) (d := 131) (v := ?_) rfl rfl (by kernel_rfl) (by kernel_rfl) (by kernel_rfl) (by rfl) ?_ (by assumption) (fun _ _ _ h => h) ?_
            rotate_left
            · intro w hSw
              go_simp
              with_reducible rfl
            try simp only [Act.put, List.setIfInBounds_toArray, List.set_cons_zero, List.set_cons_succ]
            refine Hand.held_take (i := 24) (d := 132) (v := ?_) rfl rfl (by kernel_rfl) (by kernel_rfl) (by kernel_rfl) (by rfl) ?_ (by assumption) (fun _ _ _ h => h) ?_
            rotate_left
            · intro w hSw
              go_simp
              with_reducible rfl
            try simp only [Act.put, List.setIfInBounds_toArray, List.set_cons_zero, List.set_cons_succ]
            refine Hand.held_take (i := 25) (d := 133) (v := ?_) rfl rfl (by kernel_rfl) (by kernel_rfl) (by kernel_rfl) (by rfl) ?_ (by assumption) (fun _ _ _ h => h) ?_
            rotate_left
            · intro w hSw
              go_simp
              with_reducible rfl
            try simp only [Act.put, List.setIfInBounds_toArray, List.set_cons_zero, List.set_cons_succ]
            refine Hand.held_take (i := 26) (d := 134) (v := ?_) rfl rfl (by kernel_rfl) (by kernel_rfl) (by kernel_rfl) (by rfl) ?_ (by assumption) (fun _ _ _ h => h) ?_
            rotate_left
            · intro w hSw
              go_simp
              with_reducible rfl
            try simp only [Act.put, List.setIfInBounds_toArray, List.set_cons_zero, List.set_cons_succ]
            refine wpAnyH_done (by kernel_rfl) ?_ _
            clear hHeld
            obtain ⟨y0, y1, y2, y3, y4⟩ := cells5' (HY.out.at (.head _))
            go_wp2
            go_roundw
            case rel => exact ⟨q + 1, by go_num, by rw [HCAP.out, HROOM.out, Int.add_zero], by omega, HY.out.drop⟩
            case measure => simp [intOf]; omega
          · have hs1 : (x0 == 1) = false := by simp; omega
            have hk1 : ((q : Int) == C) = false := by simp; omega
            have hg0 : (x2 == 0) = false := by simp; omega
            have hHY := H.out.new #[.int .i64 x0, .int .i64 x1, .int .i64 x2, .int .i64 0, .int .i64 R] 45
            have HY := Lib.hid (hHY.on (Below.refl _ _).drew)
            have HCC := Lib.hid hCC
            clear hHY hCC hfr hr0 hgd
            go_wp2_with fail
            refine wp_region_held_drew (S := (fun w' => w'.cell? ⟨w5.heap.size, 0, none⟩ = some (.int .i64 x0) ∧ w'.cell? ⟨w5.heap.size, 2, none⟩ = some (.int .i64 x2) ∧ w'.cell? ⟨w5.heap.size, 4, none⟩ = some (.int .i64 R))) (by kernel_rfl) ?_ (fun hHeld => ?_)
            · exact ycells (HY.out.at (.head _))
            refine Hand.held_take (i := 0) (d := 108) (v := ?_) rfl rfl (by kernel_rfl) (by kernel_rfl) (by kernel_rfl) (by rfl) ?_ (by assumption) (fun _ _ _ h => h) ?_
            rotate_left
            · intro w hSw
              go_simp
              with_reducible rfl
            try simp only [Act.put, List.setIfInBounds_toArray, List.set_cons_zero, List.set_cons_succ]
            refine Hand.held_take (i := 1) (d := 109) (v := ?_) rfl rfl (by kernel_rfl) (by kernel_rfl) (by kernel_rfl) (by rfl) ?_ (by assumption) (fun _ _ _ h => h) ?_
            rotate_left
            · intro w hSw
              go_simp
              with_reducible rfl
            try simp only [Act.put, List.setIfInBounds_toArray, List.set_cons_zero, List.set_cons_succ]
            refine Hand.held_take (i := 2) (d := 110) (v := ?_) rfl rfl (by kernel_rfl) (by kernel_rfl) (by kernel_rfl) (by rfl) ?_ (by assumption) (fun _ _ _ h => h) ?_
            rotate_left
            · intro w hSw
              go_simp
              with_reducible rfl
            try simp only [Act.put, List.setIfInBounds_toArray, List.set_cons_zero, List.set_cons_succ]
            refine Hand.held_take (i := 3) (d := 111) (v := ?_) rfl rfl (by kernel_rfl) (by kernel_rfl) (by kernel_rfl) (by rfl) ?_ (by assumption) (fun _ _ _ h => h) ?_
            rotate_left
            · intro w hSw
              go_simp
              with_reducible rfl
            try simp only [Act.put, List.setIfInBounds_toArray, List.set_cons_zero, List.set_cons_succ]
            refine Hand.held_take (i := 4) (d := 112) (v := ?_) rfl rfl (by kernel_rfl) (by kernel_rfl) (by kernel_rfl) (by rfl) ?_ (by assumption) (fun _ _ _ h => h) ?_
            rotate_left
            · intro w hSw
              go_simp
              with_reducible rfl
            try simp only [Act.put, List.setIfInBounds_toArray, List.set_cons_zero, List.set_cons_succ]
            refine Hand.held_take (i := 5) (d := 113) (v := ?_) rfl rfl (by kernel_rfl) (by kernel_rfl) (by kernel_rfl) (by rfl) ?_ (by assumption) (fun _ _ _ h => h) ?_
            rotate_left
            · intro w hSw
              go_simp
              with_reducible rfl
            try simp only [Act.put, List.setIfInBounds_toArray, List.set_cons_zero, List.set_cons_succ]
            refine Hand.held_take (i := 6) (d := 114) (v := ?_) rfl rfl (by kernel_rfl) (by kernel_rfl) (by kernel_rfl) (by rfl) ?_ (by assumption) (fun _ _ _ h => h) ?_
            rotate_left
            · intro w hSw
              go_simp
              with_reducible rfl
            try simp only [Act.put, List.setIfInBounds_toArray, List.set_cons_zero, List.set_cons_succ]
            refine Hand.held_take (i := 7) (d := 115) (v := ?_) rfl rfl (by kernel_rfl) (by kernel_rfl) (by kernel_rfl) (by rfl) ?_ (by assumption) (fun _ _ _ h => h) ?_
            rotate_left
            · intro w hSw
              go_simp
              with_reducible rfl
            try simp only [Act.put, List.setIfInBounds_toArray, List.set_cons_zero, List.set_cons_succ]
            refine wpAnyH_ready (rs := [8]) (by kernel_rfl) (by simp) ?_
            refine AllReadyH.cons rfl (fun K hK => ?_) AllReadyH.nil
            go_simp
            go_wp2_with (refine (Current_m HY.out).mono ?_; rw [HCC.out]; rintro e6 w6 ⟨rfl, h, hb⟩; replace HY := Lib.hid h; clear h)
            refine hK.out _ _ ?_ (fun hHeld => ?_)
            · first | exact ycells (HY.out.at (.head _))
            clear hK K
            clear hb
            refine Hand.held_take (i := 9) (d := 117) (v := ?_) rfl rfl (by kernel_rfl) (by kernel_rfl) (by kernel_rfl) (by rfl) ?_ (by assumption) (fun _ _ _ h => h) ?_
            rotate_left
            · intro w hSw
              go_simp
              with_reducible rfl
            try simp only [Act.put, List.setIfInBounds_toArray, List.set_cons_zero, List.set_cons_succ]
            refine Hand.held_take (i := 10) (d := 118) (v := ?_) rfl rfl (by kernel_rfl) (by kernel_rfl) (by kernel_rfl) (by rfl) ?_ (by assumption) (fun _ _ _ h => h) ?_
            rotate_left
            · intro w hSw
              go_simp
              with_reducible rfl
            try simp only [Act.put, List.setIfInBounds_toArray, List.set_cons_zero, List.set_cons_succ]
            refine Hand.held_take (i := 11) (d := 119) (v := ?_) rfl rfl (by kernel_rfl) (by kernel_rfl) (by kernel_rfl) (by rfl) ?_ (by assumption) (fun _ _ _ h => h) ?_
            rotate_left
            · intro w hSw
              go_simp
              with_reducible rfl
            try simp only [Act.put, List.setIfInBounds_toArray, List.set_cons_zero, List.set_cons_succ]
            refine Hand.held_take (i := 12) (d := 120) (v := ?_) rfl rfl (by kernel_rfl) (by kernel_rfl) (by kernel_rfl) (by rfl) ?_ (by assumption) (fun _ _ _ h => h) ?_
            rotate_left
            · intro w hSw
              go_simp
              with_reducible rfl
            try simp only [Act.put, List.setIfInBounds_toArray, List.set_cons_zero, List.set_cons_succ]
            refine Hand.held_take (i := 13) (d := 121) (v := ?_) rfl rfl (by kernel_rfl) (by kernel_rfl) (by kernel_rfl) (by rfl) ?_ (by assumption) (fun _ _ _ h => h) ?_
            rotate_left
            · intro w hSw
              go_simp
              with_reducible rfl
            try simp only [Act.put, List.setIfInBounds_toArray, List.set_cons_zero, List.set_cons_succ]
            refine Hand.held_take (i := 14) (d := 122) (v := ?_) rfl rfl (by kernel_rfl) (by kernel_rfl) (by kernel_rfl) (by rfl) ?_ (by assumption) (fun _ _ _ h => h) ?_
            rotate_left
            · intro w hSw
              go_simp
              with_reducible rfl
            try simp only [Act.put, List.setIfInBounds_toArray, List.set_cons_zero, List.set_cons_succ]
            refine Hand.held_take (i := 15) (d := 123) (v := ?_) rfl rfl (by kernel_rfl) (by kernel_rfl) (by kernel_rfl) (by rfl) ?_ (by assumption) (fun _ _ _ h => h) ?_
            rotate_left
            · intro w hSw
              go_simp
              with_reducible rfl
            try simp only [Act.put, List.setIfInBounds_toArray, List.set_cons_zero, List.set_cons_succ]
            refine Hand.held_take (i := 16) (d := 124) (v := ?_) rfl rfl (by kernel_rfl) (by kernel_rfl) (by kernel_rfl) (by rfl) ?_ (by assumption) (fun _ _ _ h => h) ?_
            rotate_left
            · intro w hSw
              go_simp
              with_reducible rfl
            try simp only [Act.put, List.setIfInBounds_toArray, List.set_cons_zero, List.set_cons_succ]
            refine Hand.held_skip (i := 17) (d := 125) rfl rfl (by kernel_rfl) (by kernel_rfl) (by kernel_rfl) (by rfl) (by assumption) (fun _ _ _ h => h) ?_
            try simp only [Act.put, List.setIfInBounds_toArray, List.set_cons_zero, List.set_cons_succ]
            refine Hand.held_skip (i := 18) (d := 126) rfl rfl (by kernel_rfl) (by kernel_rfl) (by kernel_rfl) (by rfl) (by assumption) (fun _ _ _ h => h) ?_
            try simp only [Act.put, List.setIfInBounds_toArray, List.set_cons_zero, List.set_cons_succ]
            refine Hand.held_skip (i := 19) (d := 127) rfl rfl (by kernel_rfl) (by kernel_rfl) (by kernel_rfl) (by rfl) (by assumption) (fun _ _ _ h => h) ?_
            try simp only [Act.put, List.setIfInBounds_toArray, List.set_cons_zero, List.set_cons_succ]
            refine Hand.held_skip (i := 20) (d := 128) rfl rfl (by kernel_rfl) (by kernel_rfl) (by kernel_rfl) (by rfl) (by assumption) (fun _ _ _ h => h) ?_
            try simp only [Act.put, List.setIfInBounds_toArray, List.set_cons_zero, List.set_cons_succ]
            refine Hand.held_skip (i := 21) (d := 129) rfl rfl (by kernel_rfl) (by kernel_rfl) (by kernel_rfl) (by rfl) (by assumption) (fun _ _ _ h => h) ?_
            try simp only [Act.put, List.setIfInBounds_toArray, List.set_cons_zero, List.set_cons_succ]
            refine Hand.held_skip (i := 22) (d := 130) rfl rfl (by kernel_rfl) (by kernel_rfl) (by kernel_rfl) (by rfl) (by assumption) (fun _ _ _ h => h) ?_
            try simp only [Act.put, List.setIfInBounds_toArray, List.set_cons_zero, List.set_cons_succ]
            refine Hand.held_skip (i := 23) (d := 131) rfl rfl (by kernel_rfl) (by kernel_rfl) (by kernel_rfl) (by rfl) (by assumption) (fun _ _ _ h => h) ?_
            try simp only [Act.put, List.setIfInBounds_toArray, List.set_cons_zero, List.set_cons_succ]
            refine Hand.held_skip (i := 24) (d := 132) rfl rfl (by kernel_rfl) (by kernel_rfl) (by kernel_rfl) (by rfl) (by assumption) (fun _ _ _ h => h) ?_
            try simp only [Act.put, List.setIfInBounds_toArray, List.set_cons_zero, List.set_cons_succ]
            refine Hand.held_take (i := 25) (d := 133) (v := ?_) rfl rfl (by kernel_rfl) (by kernel_rfl) (by kernel_rfl) (by rfl) ?_ (by assumption) (fun _ _ _ h => h) ?_
            rotate_left
            · intro w hSw
              go_simp
              with_reducible rfl
            try simp only [Act.put, List.setIfInBounds_toArray, List.set_cons_zero, List.set_cons_succ]
            refine Hand.held_take (i := 26) (d := 134) (v := ?_) rfl rfl (by kernel_rfl) (by kernel_rfl) (by kernel_rfl) (by rfl) ?_ (by assumption) (fun _ _ _ h => h) ?_
            rotate_left
            · intro w hSw
              go_simp
              with_reducible rfl
            try simp only [Act.put, List.setIfInBounds_toArray, List.set_cons_zero, List.set_cons_succ]
            refine wpAnyH_done (by kernel_rfl) ?_ _
            clear hHeld
            obtain ⟨y0, y1, y2, y3, y4⟩ := cells5' (HY.out.at (.head _))
            go_wp2
            go_roundw
            case rel => exact ⟨q + 1, by go_num, by rw [HCAP.out, HROOM.out], by omega, HY.out.drop⟩
            case measure => simp [intOf]; omega
      · obtain rfl : q = n1 := by omega
        have hex : decide ((q : Int) < G.k) = false := decide_eq_false (by omega)
        have h01 := cnt_bd f 0 q
        have h11 := cnt_bd f 1 q
        have h21' := cnt_bd f 2 q
        have h31 := cnt_bd f 3 q
        have hone := cnt_one HINV.out q (Nat.le_refl _)
        have hsum := cnt_sum HINV.out q (Nat.le_refl _)
        obtain ⟨C0, hC0⟩ : ∃ C, cnt f 0 q = C := ⟨_, rfl⟩
        obtain ⟨C1, hC1⟩ : ∃ C, cnt f 1 q = C := ⟨_, rfl⟩
        obtain ⟨C2, hC2⟩ : ∃ C, cnt f 2 q = C := ⟨_, rfl⟩
        obtain ⟨C3, hC3⟩ : ∃ C, cnt f 3 q = C := ⟨_, rfl⟩
        rw [hC0, hC1, hC2, hC3] at hsum
        rw [hC0] at h01
        rw [hC1] at h11 hone
        rw [hC2] at h21'
        rw [hC3] at h31
        have HC0 := Lib.hid hC0
        have HC1 := Lib.hid hC1
        have HC2 := Lib.hid hC2
        have HC3 := Lib.hid hC3
        have hleY : Y ≤ Z := by rw [hY]; exact HLE.out
        have HZ := Lib.hid hY.symm
        have HY := Lib.hid (H.out.on (Below.refl _ _).drew)
        have g1 : decide ((1 : Int) < C1) = false := decide_eq_false (by omega)
        have g2 : decide (Z < Y) = false := decide_eq_false (by omega)
        have g3 : IntKind.i64.wrap (C0 + C1) = C0 + C1 := by rw [IntKind.wrap_i64]; omega
        have g4 : IntKind.i64.wrap (C0 + C1 + C2) = C0 + C1 + C2 := by rw [IntKind.wrap_i64]; omega
        have g5 : IntKind.i64.wrap (C0 + C1 + C2 + C3) = G.k := by
          rw [show C0 + C1 + C2 + C3 = G.k by omega]
          rw [IntKind.wrap_i64]
          omega
        clear hC0 hC1 hC2 hC3 hY hsum h01 h11 h21' h31 hone hleY hql
        go_wp2_with fail
        refine wp_region_held_drew (S := (fun w' => w'.cell? ⟨w.heap.size, 2, none⟩ = some (.int .i64 G.k))) (by kernel_rfl) ?_ (fun hHeld => ?_)
        · exact gcell HGEO.out HY.out.below
        refine Hand.held_take (i := 0) (d := 139) (v := ?_) rfl rfl (by kernel_rfl) (by kernel_rfl) (by kernel_rfl) (by rfl) ?_ (by assumption) (fun _ _ _ h => h) ?_
        rotate_left
        · intro w hSw
          go_simp
          with_reducible rfl
        try simp only [Act.put, List.setIfInBounds_toArray, List.set_cons_zero, List.set_cons_succ]
        refine wpAnyH_ready (rs := [1]) (by kernel_rfl) (by simp) ?_
        refine AllReadyH.cons rfl (fun K hK => ?_) AllReadyH.nil
        go_simp
        go_wp2_with (refine (Count_m HY.out 1).mono ?_; rw [HC1.out]; rintro e1 w1 ⟨rfl, h, hb⟩; replace HY := Lib.hid h; clear h)
        refine hK.out _ _ ?_ (fun hHeld => ?_)
        · exact gcell HGEO.out HY.out.below
        clear hK K
        clear hb
        refine Hand.held_take (i := 2) (d := 141) (v := ?_) rfl rfl (by kernel_rfl) (by kernel_rfl) (by kernel_rfl) (by rfl) ?_ (by assumption) (fun _ _ _ h => h) ?_
        rotate_left
        · intro w hSw
          go_simp
          with_reducible rfl
        try simp only [Act.put, List.setIfInBounds_toArray, List.set_cons_zero, List.set_cons_succ]
        refine Hand.held_take (i := 3) (d := 142) (v := ?_) rfl rfl (by kernel_rfl) (by kernel_rfl) (by kernel_rfl) (by rfl) ?_ (by assumption) (fun _ _ _ h => h) ?_
        rotate_left
        · intro w hSw
          go_simp
          with_reducible rfl
        try simp only [Act.put, List.setIfInBounds_toArray, List.set_cons_zero, List.set_cons_succ]
        refine Hand.held_take (i := 4) (d := 143) (v := ?_) rfl rfl (by kernel_rfl) (by kernel_rfl) (by kernel_rfl) (by rfl) ?_ (by assumption) (fun _ _ _ h => h) ?_
        rotate_left
        · intro w hSw
          go_simp
          with_reducible rfl
        try simp only [Act.put, List.setIfInBounds_toArray, List.set_cons_zero, List.set_cons_succ]
        refine Hand.held_take (i := 6) (d := 145) (v := ?_) rfl rfl (by kernel_rfl) (by kernel_rfl) (by kernel_rfl) (by rfl) ?_ (by assumption) (fun _ _ _ h => h) ?_
        rotate_left
        · intro w hSw
          go_simp
          with_reducible rfl
        try simp only [Act.put, List.setIfInBounds_toArray, List.set_cons_zero, List.set_cons_succ]
        refine Hand.held_take (i := 9) (d := 148) (v := ?_) rfl rfl (by kernel_rfl) (by kernel_rfl) (by kernel_rfl) (by rfl) ?_ (by assumption) (fun _ _ _ h => h) ?_
        rotate_left
        · intro w hSw
          go_simp
          with_reducible rfl
        try simp only [Act.put, List.setIfInBounds_toArray, List.set_cons_zero, List.set_cons_succ]
        refine Hand.held_take (i := 12) (d := 151) (v := ?_) rfl rfl (by kernel_rfl) (by kernel_rfl) (by kernel_rfl) (by rfl) ?_ (by assumption) (fun _ _ _ h => h) ?_
        rotate_left
        · intro w hSw
          go_simp
          with_reducible rfl
        try simp only [Act.put, List.setIfInBounds_toArray, List.set_cons_zero, List.set_cons_succ]
        refine Hand.held_take (i := 15) (d := 154) (v := ?_) rfl rfl (by kernel_rfl) (by kernel_rfl) (by kernel_rfl) (by rfl) ?_ (by assumption) (fun _ _ _ h => h) ?_
        rotate_left
        · intro w hSw
          go_simp
          with_reducible rfl
        try simp only [Act.put, List.setIfInBounds_toArray, List.set_cons_zero, List.set_cons_succ]
        refine Hand.held_take (i := 16) (d := 155) (v := ?_) rfl rfl (by kernel_rfl) (by kernel_rfl) (by kernel_rfl) (by rfl) ?_ (by assumption) (fun _ _ _ h => h) ?_
        rotate_left
        · intro w hSw
          go_simp
          with_reducible rfl
        try simp only [Act.put, List.setIfInBounds_toArray, List.set_cons_zero, List.set_cons_succ]
        refine wpAnyH_ready (rs := [5]) (by kernel_rfl) (by simp) ?_
        refine AllReadyH.cons rfl (fun K hK => ?_) AllReadyH.nil
        go_simp
        go_wp2_with (refine (Count_m HY.out 0).mono ?_; rw [HC0.out]; rintro e5 w5 ⟨rfl, h, hb⟩; replace HY := Lib.hid h; clear h)
        refine hK.out _ _ ?_ (fun hHeld => ?_)
        · exact gcell HGEO.out HY.out.below
        clear hK K
        clear hb
        refine wpAnyH_ready (rs := [7]) (by kernel_rfl) (by simp) ?_
        refine AllReadyH.cons rfl (fun K hK => ?_) AllReadyH.nil
        go_simp
        go_wp2_with (refine (Count_m HY.out 1).mono ?_; rw [HC1.out]; rintro e7 w7 ⟨rfl, h, hb⟩; replace HY := Lib.hid h; clear h)
        refine hK.out _ _ ?_ (fun hHeld => ?_)
        · exact gcell HGEO.out HY.out.below
        clear hK K
        clear hb
        refine Hand.held_take (i := 8) (d := 147) (v := ?_) rfl rfl (by kernel_rfl) (by kernel_rfl) (by kernel_rfl) (by rfl) ?_ (by assumption) (fun _ _ _ h => h) ?_
        rotate_left
        · intro w hSw
          go_simp
          with_reducible rfl
        try simp only [Act.put, List.setIfInBounds_toArray, List.set_cons_zero, List.set_cons_succ]
        refine wpAnyH_ready (rs := [10]) (by kernel_rfl) (by simp) ?_
        refine AllReadyH.cons rfl (fun K hK => ?_) AllReadyH.nil
        go_simp
        go_wp2_with (refine (Count_m HY.out 2).mono ?_; rw [HC2.out]; rintro e10 w10 ⟨rfl, h, hb⟩; replace HY := Lib.hid h; clear h)
        refine hK.out _ _ ?_ (fun hHeld => ?_)
        · exact gcell HGEO.out HY.out.below
        clear hK K
        clear hb
        refine Hand.held_take (i := 11) (d := 150) (v := ?_) rfl rfl (by kernel_rfl) (by kernel_rfl) (by kernel_rfl) (by rfl) ?_ (by assumption) (fun _ _ _ h => h) ?_
        rotate_left
        · intro w hSw
          go_simp
          with_reducible rfl
        try simp only [Act.put, List.setIfInBounds_toArray, List.set_cons_zero, List.set_cons_succ]
        refine wpAnyH_ready (rs := [13]) (by kernel_rfl) (by simp) ?_
        refine AllReadyH.cons rfl (fun K hK => ?_) AllReadyH.nil
        go_simp
        go_wp2_with (refine (Count_m HY.out 3).mono ?_; rw [HC3.out]; rintro e13 w13 ⟨rfl, h, hb⟩; replace HY := Lib.hid h; clear h)
        refine hK.out _ _ ?_ (fun hHeld => ?_)
        · exact gcell HGEO.out HY.out.below
        clear hK K
        clear hb
        refine Hand.held_take (i := 14) (d := 153) (v := ?_) rfl rfl (by kernel_rfl) (by kernel_rfl) (by kernel_rfl) (by rfl) ?_ (by assumption) (fun _ _ _ h => h) ?_
        rotate_left
        · intro w hSw
          go_simp
          with_reducible rfl
        try simp only [Act.put, List.setIfInBounds_toArray, List.set_cons_zero, List.set_cons_succ]
        refine Hand.held_take (i := 17) (d := 156) (v := ?_) rfl rfl (by kernel_rfl) (by kernel_rfl) (by kernel_rfl) (by rfl) ?_ (by assumption) (fun _ _ _ h => h) ?_
        rotate_left
        · intro w hSw
          go_simp
          with_reducible rfl
        try simp only [Act.put, List.setIfInBounds_toArray, List.set_cons_zero, List.set_cons_succ]
        refine Hand.held_take (i := 18) (d := 157) (v := ?_) rfl rfl (by kernel_rfl) (by kernel_rfl) (by kernel_rfl) (by rfl) ?_ (by assumption) (fun _ _ _ h => h) ?_
        rotate_left
        · intro w hSw
          go_simp
          with_reducible rfl
        try simp only [Act.put, List.setIfInBounds_toArray, List.set_cons_zero, List.set_cons_succ]
        refine Hand.held_take (i := 19) (d := 158) (v := ?_) rfl rfl (by kernel_rfl) (by kernel_rfl) (by kernel_rfl) (by rfl) ?_ (by assumption) (fun _ _ _ h => h) ?_
        rotate_left
        · intro w hSw
          go_simp
          with_reducible rfl
        try simp only [Act.put, List.setIfInBounds_toArray, List.set_cons_zero, List.set_cons_succ]
        refine Hand.held_take (i := 20) (d := 159) (v := ?_) rfl rfl (by kernel_rfl) (by kernel_rfl) (by kernel_rfl) (by rfl) ?_ (by assumption) (fun _ _ _ h => h) ?_
        rotate_left
        · intro w hSw
          go_simp
          with_reducible rfl
        try simp only [Act.put, List.setIfInBounds_toArray, List.set_cons_zero, List.set_cons_succ]
        refine Hand.held_take (i := 21) (d := 160) (v := ?_) rfl rfl (by kernel_rfl) (by kernel_rfl) (by kernel_rfl) (by rfl) ?_ (by assumption) (fun _ _ _ h => h) ?_
        rotate_left
        · intro w hSw
          go_simp
          with_reducible rfl
        try simp only [Act.put, List.setIfInBounds_toArray, List.set_cons_zero, List.set_cons_succ]
        refine wpAnyH_ready (rs := [22]) (by kernel_rfl) (by simp) ?_
        refine AllReadyH.cons rfl (fun K hK => ?_) AllReadyH.nil
        go_simp
        go_wp2_with (refine (Capacity_m HY.out).mono ?_; rw [HZ.out]; rintro e22 w22 ⟨rfl, h, hb⟩; replace HY := Lib.hid h; clear h)
        refine hK.out _ _ ?_ (fun hHeld => ?_)
        · exact gcell HGEO.out HY.out.below
        clear hK K
        clear hb
        refine Hand.held_take (i := 23) (d := 162) (v := ?_) rfl rfl (by kernel_rfl) (by kernel_rfl) (by kernel_rfl) (by rfl) ?_ (by assumption) (fun _ _ _ h => h) ?_
        rotate_left
        · intro w hSw
          go_simp
          with_reducible rfl
        try simp only [Act.put, List.setIfInBounds_toArray, List.set_cons_zero, List.set_cons_succ]
        refine Hand.held_take (i := 24) (d := 163) (v := ?_) rfl rfl (by kernel_rfl) (by kernel_rfl) (by kernel_rfl) (by rfl) ?_ (by assumption) (fun _ _ _ h => h) ?_
        rotate_left
        · intro w hSw
          go_simp
          with_reducible rfl
        try simp only [Act.put, List.setIfInBounds_toArray, List.set_cons_zero, List.set_cons_succ]
        refine Hand.held_take (i := 25) (d := 164) (v := ?_) rfl rfl (by kernel_rfl) (by kernel_rfl) (by kernel_rfl) (by rfl) ?_ (by assumption) (fun _ _ _ h => h) ?_
        rotate_left
        · intro w hSw
          go_simp
          with_reducible rfl
        try simp only [Act.put, List.setIfInBounds_toArray, List.set_cons_zero, List.set_cons_succ]
        refine Hand.held_take (i := 26) (d := 165) (v := ?_) rfl rfl (by kernel_rfl) (by kernel_rfl) (by kernel_rfl) (by rfl) ?_ (by assumption) (fun _ _ _ h => h) ?_
        rotate_left
        · intro w hSw
          go_simp
          with_reducible rfl
        try simp only [Act.put, List.setIfInBounds_toArray, List.set_cons_zero, List.set_cons_succ]
        refine Hand.held_take (i := 27) (d := 166) (v := ?_) rfl rfl (by kernel_rfl) (by kernel_rfl) (by kernel_rfl) (by rfl) ?_ (by assumption) (fun _ _ _ h => h) ?_
        rotate_left
        · intro w hSw
          go_simp
          with_reducible rfl
        try simp only [Act.put, List.setIfInBounds_toArray, List.set_cons_zero, List.set_cons_succ]
        refine Hand.held_take (i := 28) (d := 167) (v := ?_) rfl rfl (by kernel_rfl) (by kernel_rfl) (by kernel_rfl) (by rfl) ?_ (by assumption) (fun _ _ _ h => h) ?_
        rotate_left
        · intro w hSw
          go_simp
          with_reducible rfl
        try simp only [Act.put, List.setIfInBounds_toArray, List.set_cons_zero, List.set_cons_succ]
        refine Hand.held_take (i := 29) (d := 168) (v := ?_) rfl rfl (by kernel_rfl) (by kernel_rfl) (by kernel_rfl) (by rfl) ?_ (by assumption) (fun _ _ _ h => h) ?_
        rotate_left
        · intro w hSw
          go_simp
          with_reducible rfl
        try simp only [Act.put, List.setIfInBounds_toArray, List.set_cons_zero, List.set_cons_succ]
        refine wpAnyH_done (by kernel_rfl) ?_ _
        clear hHeld
        go_wp2
        go_roundw
        case rel => exact ⟨j + 1, f, Y, by go_num, rfl, by omega, by rw [HZ.out]; exact Int.le_refl _, HY.out⟩
        case measure => simp [intOf]; omega

theorem own : ownKnob Try.prog.godebug = none := by kernel_rfl
theorem laid : laidOutB Try.prog = true := by kernel_rfl

set_option maxRecDepth 100000 in
theorem lifted (os : Os) (started : os.Started) (H : Type) (enc : TypeId × Value → H) :
    ReturnsInHanded {} Try.checked os 6 .any (Rows.linesOneSpec.pre6 enc Try.prog Try.f6 Rows.linesOneRow.domain false) (Rows.linesOneSpec.post enc Try.prog Try.f6 false true false false) := by
  refine returnsInHanded_of_change (C := Try.checked) own started (by kernel_rfl) Try.func6
    (ChangeSpec.witness6 (enc := enc) (C := Try.checked) false ⟨#[], #[.agg #[.int .i64 0, .int .i64 0, .int .i64 0, .int .i64 0, .int .i64 0], .agg #[.slice none 0 0, .slice none 0 0], .slice none 0 0], []⟩ 8 (by kernel_rfl) (by kernel_rfl) (by kernel_rfl) (by kernel_rfl)) ?_
  intro W base args ds gs before hval0 hW _ _
  have hval : ∀ (j : Nat) t v, Try.f6.params[j]? = some t → args[j]? = some v → Value.okWide Try.prog W .any base t v := hval0
  have hW' := hW
  obtain ⟨p, q, hA0, hV, rfl, hfz, hnd⟩ := hW
  have hA : DataW.TrodAll enc Try.prog W 0 (fun _ => true) true Try.f6.params.toList args.toList ds p := hA0
  rw [Try.params6] at hA hval
  obtain ⟨v0, v1, v2, d0, d1, d2, p0, p1, p2, rfl, rfl, rfl, h0, h1, h2⟩ := trodAll_three hA
  obtain ⟨c0, l0, k0, q0, s0, rfl⟩ := open_geo Try.underlying23 rfl (by kernel_rfl) (by kernel_rfl) (hval 0 23 v0 rfl rfl) h0
  obtain ⟨A1a, n1a, c1a, zs1a, A1b, n1b, c1b, zs1b, rfl, hsa1, hsb1⟩ := LinesOps.open_setting (hval 1 36 v1 rfl rfl) h1
  obtain ⟨A2, n2, c2, rfl, hnc2, hcm2, hr2⟩ := LinesOps.open_ops (hval 2 37 v2 rfl rfl) h2
  refine (walk c0 l0 k0 q0 s0 A1a n1a c1a zs1a A1b n1b c1b zs1b A2 n2 c2 W hsa1 hsb1 hnc2 hcm2 hr2).mono fun e W' ⟨he, hb⟩ => ?_
  subst he
  exact ⟨_, rfl, Law.post laid (by kernel_rfl) (by kernel_rfl) Try.underlying4 rfl hW' rfl hb⟩

theorem proved : Rows.LinesOneSaid :=
  OpenClaim.holds_of_wide 6 Try.f6 rfl rfl rfl rfl rfl rfl rfl ⟨rfl, rfl, rfl, rfl, rfl⟩ rfl rfl rfl rfl rfl (by kernel_rfl) Try.func6 (by kernel_rfl)
    (of_decide_eq_true (by kernel_rfl)) (by unfold Func.isWrapper; first | (rw [if_pos (by decide +kernel)]; kernel_rfl) | (rw [if_neg (by decide +kernel)]; exact ⟨rfl, rfl⟩))
    (fun os started H enc _ => lifted os started H enc)

end Go.Proofs.Ytnnonkmkdjhacaa.linesOne
