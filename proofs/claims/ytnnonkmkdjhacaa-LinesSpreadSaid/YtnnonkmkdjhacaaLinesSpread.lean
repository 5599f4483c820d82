/-
  LinesSpread holds: lines that are opened, erased, closed and released one behind the other keep wears that differ by 1 at most; for whatever came in. No condition.
-/
import Derived.Test.YtnnonkmkdjhacaaLinesBegin
import Derived.Test.YtnnonkmkdjhacaaLawKit
import Derived.Test.YtnnonkmkdjhacaaStructs
import Derived.OpenShut
import Derived.Test.YtnnonkmkdjhacaaLinesGrow
import Derived.Test.YtnnonkmkdjhacaaLinesEven
import Derived.Test.YtnnonkmkdjhacaaMade
import Derived.Test.YtnnonkmkdjhacaaBag
import Derived.Test.YtnnonkmkdjhacaaArrays
import Derived.Deep.QuietTactic
import Derived.BigQuiet
import Derived.Deep.DeepCutAuto
import Derived.Deep.CutBlock
import Derived.Deep.Fields
namespace Go.Proofs.Ytnnonkmkdjhacaa.linesSpread
open Go.RowKit Go.ChangeShapes Go.WideShapes Lines LinesPkg LinesLaw
open Nand (Shape upd)
set_option maxRecDepth 4000

theorem wpList_append_run {Pr : Program} {w w' : World} {ops : Array Oper} {rest : List Oper} {o : Oper} {a : Act} {Q : Exit → Act → World → Prop} (hgd : o.guard = none) (s x : Operand) (t : TypeId)
    (ho : o.op = .call { callee := .builtin .append, args := #[s, x], argTypes := #[t, t] }) (v1 v2 v' : Value) (hs : a.eval s = v1) (hx : a.eval x = v2) (hrun : ∀ ty, (Builtin.append_ #[t, t] ty #[v1, v2]).run Pr w = .ok v' w') (h : wpList Pr ops Q rest (a.put o.dst v') w') : wpList Pr ops Q (o :: rest) a w :=
  wpList_plain hgd fun _ hK => by
    unfold Oper.wp execOp
    simp only [ho, resolve, invoke, builtin, Sem.run_bind, Sem.run_pure, Result.andThen_ok, List.map_toArray, List.map_cons, List.map_nil, hs, hx, hrun]
    exact hK _ _ h

theorem fill_start {a w : World} (hb : Below a.heap.size a w) : Fill a w.heap.size (.slice none 0 0) (.slice none 0 0) [] [] (w.alloc (.cells #[.slice none 0 0, .slice none 0 0] 36)) :=
  ⟨heap_alloc_new w _, ownI_nil _ _ _, ownI_nil _ _ _, hb.size, by simp [Value.ownBlock], by simp [Value.ownBlock], fun k hk => by simp [Value.ownBlock] at hk, hb.alloc hb.size _⟩

theorem own_nums {w : World} {B : Nat} {A : Option Addr} {n c : Nat} {zs : List Int} (h : OwnI w B 3 (.slice A n c) zs) (hz : ∀ z ∈ zs, -9223372036854775808 ≤ z ∧ z ≤ 9223372036854775807) : Nums w w.heap.size A n zs := by
  obtain ⟨A', c', e, _, _, hr⟩ := h.reads hz
  injection e with e1 e2 e3
  subst e1 e2 e3
  exact hr

theorem even_start {K : Nat} {ws : List Int} {y : Int} (hl : ws.length = K) (hw : ∀ u ∈ ws, y ≤ u ∧ u ≤ y + 1) : Even (LinesPkg.start (List.replicate K 1) ws) K y := by
  have hg : ∀ i, i < K → ((List.replicate K (1 : Int))[i]?).getD 0 = 1 := fun i hi => by rw [List.getElem?_replicate, if_pos hi]; rfl
  refine ⟨fun i hi => ?_, fun i hi => ?_, fun i hi => ?_⟩
  · show freeSt (((List.replicate K (1 : Int))[i]?).getD 0) = 0
    rw [hg i hi]
    rfl
  · exact hg i hi
  · show y ≤ (ws[i]?).getD 0 ∧ (ws[i]?).getD 0 ≤ y + 1
    rw [List.getElem?_eq_getElem (by omega)]
    exact hw _ (List.getElem_mem _)

set_option maxHeartbeats 8000000 in
theorem walk (c l k p s y z : Int) (A : Option Addr) (m cp : Nat) (w : World) (_hy0 : -9223372036854775808 ≤ y) (_hy1 : y ≤ 9223372036854775807) (_hz0 : -9223372036854775808 ≤ z) (_hz1 : z ≤ 9223372036854775807) (hmc : m ≤ cp) (hcm : cp ≤ maxLen) (hr : LinesOps.Bools w w.heap.size A m) :
    Calls Try.prog 7 #[.agg #[.int .i64 c, .int .i64 l, .int .i64 k, .int .i64 p, .int .i64 s], .agg #[.int .i64 y, .int .i64 z], .slice A m cp] w fun e w' => e = .returned (.bool true) ∧ Below w.heap.size w w' := by
  have HBOOL := Lib.hid hr
  have hm := Nat.le_trans hmc hcm
  unfold maxLen at hm
  clear hr hmc hcm
  obtain ⟨og, hog⟩ : ∃ o, o = Obj.cells #[.int .i64 c, .int .i64 l, .int .i64 k, .int .i64 p, .int .i64 s] 23 := ⟨_, rfl⟩
  obtain ⟨os, hos⟩ : ∃ o, o = Obj.cells #[.int .i64 y, .int .i64 z] 52 := ⟨_, rfl⟩
  obtain ⟨a, ha⟩ : ∃ a, a = (w.alloc og).alloc os := ⟨_, rfl⟩
  have hwa : Below w.heap.size w a := by rw [ha]; exact ((Below.refl _ _).alloc (Nat.le_refl _) _).alloc (by simp) _
  have hgeo : Geo a w.heap.size c l k p s := by rw [ha, hog]; exact geo_keep (geo_new w _ _ _ _ _ _) ((Below.refl _ _).alloc (Nat.le_refl _) _)
  have hset : a.heap[w.heap.size + 1]? = some (.cells #[.int .i64 y, .int .i64 z] 52 (0, 0)) := by
    have := heap_alloc_new (w.alloc og) (.cells #[.int .i64 y, .int .i64 z] 52)
    rw [World.size_alloc] at this
    rw [ha, hos]
    exact this
  have HWA := Lib.hid hwa
  have HGEO := Lib.hid hgeo
  have HSET := Lib.hid hset
  have HA0 := Lib.hid ha
  have HAW := Lib.hid (fun w => awake_any w)
  have HBW := Lib.hid (fun (w' : World) (hb : Below a.heap.size a w') => show Below w.heap.size w w' from hwa.trans (hb.mono hwa.size))
  clear hwa hgeo hset ha
  go_enter Try.func7, Try.ntmps7
  go_wp2_with fail
  rw [← hog, ← hos, ← HA0.out]
  refine (HAW.out a).mono ?_
  rintro e1 wa ⟨rfl, hb⟩
  have HA := Lib.hid hb
  clear hb
  obtain ⟨s0, s1⟩ := cells2 ((HA.out.block _ (Array.getElem?_eq_some_iff.1 HSET.out).1).trans HSET.out)
  go_wp2_with fail
  go_quiet (fail)
  have HA1 := Lib.hid (below_draws HA.out nq)
  obtain ⟨k0, k1, k2, k3, k4⟩ := geo_keep HGEO.out HA1.out
  clear s0 s1
  by_cases h0 : k < 1
  · go_wp2
    go_ret
    exact ⟨rfl, HBW.out _ HA1.out⟩
  by_cases h1 : 64 < k
  · go_wp2
    go_ret
    exact ⟨rfl, HBW.out _ HA1.out⟩
  by_cases h2 : y < 0
  · go_wp2
    go_ret
    exact ⟨rfl, HBW.out _ HA1.out⟩
  by_cases h3 : 1000000 < y
  · go_wp2
    go_ret
    exact ⟨rfl, HBW.out _ HA1.out⟩
  by_cases h4 : (64 : Int) < (m : Int)
  · go_wp2
    go_ret
    exact ⟨rfl, HBW.out _ HA1.out⟩
  by_cases h5 : z < 0
  · go_wp2
    go_ret
    exact ⟨rfl, HBW.out _ HA1.out⟩
  by_cases h6 : 300 < z
  · go_wp2
    go_ret
    exact ⟨rfl, HBW.out _ HA1.out⟩
  obtain ⟨K, hKk⟩ := Int.eq_ofNat_of_zero_le (show 0 ≤ k by omega)
  have hK1 : 1 ≤ K := by omega
  have hK2 : K ≤ 64 := by omega
  have HK := Lib.hid hKk
  clear hKk
  go_upto_region 5 with fail
  refine at_wld ?_
  intro wx hwx
  have HX := Lib.hid (show Below a.heap.size a wx by rw [hwx]; exact HA1.out)
  have HG2 := Lib.hid (show Geo wx w.heap.size c l k p s from geo_keep HGEO.out HX.out)
  clear hwx HA1 HA k0 k1 k2 k3 k4
  go_wp2_with fail
  go_loopw [11, 12] (fun i _ wr => ∃ (j : Nat) (A1 : Option Addr) (n1 c1 : Nat) (A2 : Option Addr) (n2 c2 : Nat) (ws : List Int), i = .int .i64 (j : Int) ∧ j ≤ K ∧ Fill a wx.heap.size (.slice A1 n1 c1) (.slice A2 n2 c2) (List.replicate j 1) ws wr ∧ ws.length = j ∧ ∀ u ∈ ws, y ≤ u ∧ u ≤ y + 1) (fun i _ _ => K - (intOf i).toNat)
  case atStart => exact ⟨0, none, 0, 0, none, 0, 0, [], rfl, by omega, fill_start HX.out, rfl, fun u hu => absurd hu (by simp)⟩
  case round =>
    obtain ⟨j, A1, n1, c1, A2, n2, c2, ws, rfl, hj, hF, hl, hw⟩ := hrel
    have HF := Lib.hid hF
    have HL := Lib.hid hl
    have HW := Lib.hid hw
    clear hF hl hw
    obtain ⟨d0, d1⟩ := HF.out.cells
    obtain ⟨k0, k1, k2, k3, k4⟩ := geo_keep HGEO.out HF.out.below
    by_cases hlt : j < K
    · have hlt' : (j : Int) < k := by have := HK.out; omega
      have hg := HF.out.good 1 (by simp; omega)
      obtain ⟨B1, e1, f1, w4, hrun, hcell, hfz, hcell1, hF4⟩ := hg
      have HF4 := Lib.hid hF4
      clear hF4
      by_cases hjm : j < m
      · obtain ⟨bb, off, x, rfl, hbl, hcb⟩ := HBOOL.out.keep (HBW.out _ HF.out.below) j hjm
        have hjm' : (j : Int) < m := by omega
        cases x
        · go_upto_region 12 with fail
          go_upto_region 13 with (at_builtin; refine wpList_append_run (o := ⟨some 84, _, _, _, _, _⟩) rfl _ _ _ rfl (.slice A1 n1 c1) (.slice (some ⟨wr.heap.size, 0, none⟩) 1 1) _ rfl rfl (fun _ => hrun) ?_)
          have hg := HF4.out.wear (y) (by have := HL.out; omega)
          obtain ⟨B2, e2, f2, w6, hrun2, hcell2, hfz2, hF6⟩ := hg
          have HF6 := Lib.hid hF6
          have hsz : (w4.setCell ⟨wx.heap.size, 0, none⟩ (.slice B1 e1 f1)).heap.size = w4.heap.size := by simp [World.setCell]
          rw [hsz] at hrun2
          clear hF6 hrun hsz
          go_wp2_with (at_builtin; refine wpList_append_run (o := ⟨some 90, _, _, _, _, _⟩) rfl _ _ _ rfl (.slice A2 n2 c2) (.slice (some ⟨w4.heap.size, 0, none⟩) 1 1) _ rfl rfl (fun _ => hrun2) ?_)
          clear d0 d1 hrun2 hcell hfz hcell1
          go_wp2
          go_roundw
          case measure => simp [intOf]; omega
          case rel => exact ⟨j + 1, B1, e1, f1, B2, e2, f2, ws ++ [y], by go_num, by omega, by rw [List.replicate_succ']; exact HF6.out, by rw [List.length_append, HL.out]; rfl, fun u hu => by
            rcases List.mem_append.1 hu with hu | hu
            · exact HW.out u hu
            · rw [List.mem_singleton.1 hu]
              omega⟩
        · go_upto_region 12 with fail
          go_upto_region 13 with (at_builtin; refine wpList_append_run (o := ⟨some 84, _, _, _, _, _⟩) rfl _ _ _ rfl (.slice A1 n1 c1) (.slice (some ⟨wr.heap.size, 0, none⟩) 1 1) _ rfl rfl (fun _ => hrun) ?_)
          have hg := HF4.out.wear (y + 1) (by have := HL.out; omega)
          obtain ⟨B2, e2, f2, w6, hrun2, hcell2, hfz2, hF6⟩ := hg
          have HF6 := Lib.hid hF6
          have hsz : (w4.setCell ⟨wx.heap.size, 0, none⟩ (.slice B1 e1 f1)).heap.size = w4.heap.size := by simp [World.setCell]
          rw [hsz] at hrun2
          clear hF6 hrun hsz
          go_wp2_with (at_builtin; refine wpList_append_run (o := ⟨some 90, _, _, _, _, _⟩) rfl _ _ _ rfl (.slice A2 n2 c2) (.slice (some ⟨w4.heap.size, 0, none⟩) 1 1) _ rfl rfl (fun _ => hrun2) ?_)
          clear d0 d1 hrun2 hcell hfz hcell1
          go_wp2
          go_roundw
          case measure => simp [intOf]; omega
          case rel => exact ⟨j + 1, B1, e1, f1, B2, e2, f2, ws ++ [y + 1], by go_num, by omega, by rw [List.replicate_succ']; exact HF6.out, by rw [List.length_append, HL.out]; rfl, fun u hu => by
            rcases List.mem_append.1 hu with hu | hu
            · exact HW.out u hu
            · rw [List.mem_singleton.1 hu]
              omega⟩
      · have hjm' : decide ((j : Int) < m) = false := decide_eq_false (by omega)
        go_upto_region 12 with fail
        go_upto_region 13 with (at_builtin; refine wpList_append_run (o := ⟨some 84, _, _, _, _, _⟩) rfl _ _ _ rfl (.slice A1 n1 c1) (.slice (some ⟨wr.heap.size, 0, none⟩) 1 1) _ rfl rfl (fun _ => hrun) ?_)
        have hg := HF4.out.wear (y) (by have := HL.out; omega)
        obtain ⟨B2, e2, f2, w6, hrun2, hcell2, hfz2, hF6⟩ := hg
        have HF6 := Lib.hid hF6
        have hsz : (w4.setCell ⟨wx.heap.size, 0, none⟩ (.slice B1 e1 f1)).heap.size = w4.heap.size := by simp [World.setCell]
        rw [hsz] at hrun2
        clear hF6 hrun hsz
        go_wp2_with (at_builtin; refine wpList_append_run (o := ⟨some 90, _, _, _, _, _⟩) rfl _ _ _ rfl (.slice A2 n2 c2) (.slice (some ⟨w4.heap.size, 0, none⟩) 1 1) _ rfl rfl (fun _ => hrun2) ?_)
        clear d0 d1 hrun2 hcell hfz hcell1
        go_wp2
        go_roundw
        case measure => simp [intOf]; omega
        case rel => exact ⟨j + 1, B1, e1, f1, B2, e2, f2, ws ++ [y], by go_num, by omega, by rw [List.replicate_succ']; exact HF6.out, by rw [List.length_append, HL.out]; rfl, fun u hu => by
          rcases List.mem_append.1 hu with hu | hu
          · exact HW.out u hu
          · rw [List.mem_singleton.1 hu]
            omega⟩
    · obtain rfl : j = K := by omega
      have hex : decide ((j : Int) < k) = false := decide_eq_false (by have := HK.out; omega)
      have hF := HF.out
      have hN1 := own_nums hF.o1 (fun z hz => by rw [List.eq_of_mem_replicate hz]; omega)
      have hN2 := own_nums hF.o2 (fun z hz => by have := HW.out z hz; omega)
      have HE := Lib.hid (even_start HL.out HW.out)
      have hbel := hF.below
      clear hF
      rcases New_split c l k p s A1 n1 c1 (List.replicate j 1) A2 n2 c2 ws wr hN1 hN2 with hN | ⟨G, hG, rfl, rfl, rfl, rfl, rfl, h21, hnk, hf1, hf2⟩
      · have HN := Lib.hid (hN wr (Below.refl _ _))
        have HBL := Lib.hid hbel
        clear hN hN1 hN2 hbel
        go_wp2_with fail
        refine HN.out.mono ?_
        rintro e2 w2 ⟨rfl, hb⟩
        have HB2 := Lib.hid (below_then HBL.out hb)
        clear hb k0 k1 k2 k3 k4 d0 d1
        go_wp2
        go_ret
        exact ⟨rfl, HBW.out _ HB2.out⟩
      subst n2
      obtain rfl : n1 = j := by have := HK.out; omega
      have HNW := Lib.hid (New_m hG A1 n1 c1 A2 c2 (List.replicate n1 1) ws a wr hbel hN1 hf1 hN2 hf2)
      clear hN1 hN2 hf1 hf2 hbel hG
      generalize LinesPkg.start (List.replicate n1 1) ws = f at HE HNW
      go_wp2_with fail
      refine HNW.out.mono ?_
      rintro e2 w2 ⟨gd, rfl, h⟩
      have H := Lib.hid h
      clear h HNW k0 k1 k2 k3 k4 d0 d1 HF HL HW HX HG2 hex
      go_wp2_with fail
      go_loopw [15, 16, 17, 18, 19, 20, 21, 22, 23, 24, 25, 26] (fun i _ _ _ _ _ _ _ _ _ _ _ wr => ∃ (j : Nat) (f : St) (M : Int), i = .int .i64 (j : Int) ∧ (j : Int) ≤ z ∧ 0 ≤ M ∧ M ≤ 1000000 + j ∧ Even f n1 M ∧ Mine G n1 a gd f [] wr) (fun i _ _ _ _ _ _ _ _ _ _ _ _ => z.toNat - (intOf i).toNat)
      case atStart => exact ⟨0, f, y, rfl, by omega, by omega, by omega, HE.out, H.out⟩
      case round =>
        clear H HE
        obtain ⟨j, f, M, rfl, hjz, hM0, hM1, he, h⟩ := hrel
        have H := Lib.hid h
        have HE := Lib.hid he
        clear h he
        by_cases hlt : (j : Int) < z
        rotate_left
        · have hex : decide ((j : Int) < z) = false := decide_eq_false hlt
          go_wp2
          go_ret
          exact ⟨rfl, HBW.out _ H.out.below⟩
        obtain ⟨i, f1, f2, f3, f4, M', hR, hS, hc1, hd1, hR2, hS2, hc3, hd3, he4, hM2, hM3⟩ := even_round HE.out (by omega) ⟨hM0, by omega⟩
        have HE4 := Lib.hid he4
        have HR := Lib.hid hR
        have HS := Lib.hid hS
        have HC1 := Lib.hid hc1
        have HD1 := Lib.hid hd1
        have HR2 := Lib.hid hR2
        have HS2 := Lib.hid hS2
        have HC3 := Lib.hid hc3
        have HD3 := Lib.hid hd3
        clear he4 hR hS hc1 hd1 hR2 hS2 hc3 hd3
        have HC := Lib.hid (Open_m H.out)
        rw [HR.out, HS.out] at HC
        unfold LinesPkg.pairV at HC
        dsimp only at HC
        go_wp2_with fail
        refine HC.out.mono ?_
        rintro e3 w3 ⟨rfl, h⟩
        replace H := Lib.hid h
        clear h HC
        have HC := Lib.hid (Erased_m H.out (i : Int))
        rw [HC1.out, HD1.out] at HC
        go_wp2_with fail
        refine HC.out.mono ?_
        rintro e4 w4 ⟨rfl, h⟩
        replace H := Lib.hid h
        clear h HC
        have HC := Lib.hid (Close_m H.out)
        rw [HR2.out, HS2.out] at HC
        unfold LinesPkg.pairV at HC
        dsimp only at HC
        go_wp2_with fail
        refine HC.out.mono ?_
        rintro e5 w5 ⟨rfl, h⟩
        replace H := Lib.hid h
        clear h HC
        have HC := Lib.hid (Release_m H.out (i : Int))
        rw [HC3.out, HD3.out] at HC
        go_wp2_with fail
        refine HC.out.mono ?_
        rintro e6 w6 ⟨rfl, h⟩
        replace H := Lib.hid h
        clear h HC
        clear HR HS HC1 HD1 HR2 HS2 HC3 HD3 HE
        clear f f1 f2 f3
        go_wp2_with fail
        go_loopw [22, 23, 24, 25, 26] (fun le mo q _ _ wq => ∃ (t : Nat) (LE MO : Int), q = .int .i64 (t : Int) ∧ le = .int .i64 LE ∧ mo = .int .i64 MO ∧ t ≤ n1 ∧ M' ≤ LE ∧ LE ≤ 1099511627776 ∧ 0 ≤ MO ∧ MO ≤ M' + 1 ∧ Mine G n1 a gd f4 [] wq) (fun _ _ q _ _ _ => n1 - (intOf q).toNat)
        case atStart => exact ⟨0, 1099511627776, 0, rfl, rfl, rfl, by omega, by omega, by omega, by omega, by omega, H.out⟩
        case round =>
          clear H
          obtain ⟨t, LE, MO, rfl, rfl, rfl, ht, hL0, hL1, hO0, hO1, h⟩ := hrel
          have H := Lib.hid h
          clear h
          obtain ⟨k0, k1, k2, k3, k4⟩ := geo_keep HGEO.out H.out.below
          by_cases htn : t < n1
          · have htn' : (t : Int) < G.k := by omega
            have HC := Lib.hid (geti_m H.out t htn)
            have hw4 := HE4.out.wr t htn
            unfold lineV at HC
            obtain ⟨x, hx⟩ : ∃ x, x = f4 t := ⟨_, rfl⟩
            rw [← hx] at HC hw4
            clear hx
            obtain ⟨x0, W, x2⟩ := x
            dsimp only at HC hw4
            generalize room G x2 = R at HC
            obtain ⟨hW0, hW1⟩ := hw4
            obtain ⟨L2, hL2, hL20, hL21⟩ : ∃ L2, (if W < LE then W else LE) = L2 ∧ M' ≤ L2 ∧ L2 ≤ 1099511627776 := ⟨_, rfl, by split <;> omega, by split <;> omega⟩
            obtain ⟨O2, hO2, hO20, hO21⟩ : ∃ O2, (if MO < W then W else MO) = O2 ∧ 0 ≤ O2 ∧ O2 ≤ M' + 1 := ⟨_, rfl, by split <;> omega, by split <;> omega⟩
            go_wp2_with fail
            refine HC.out.mono ?_
            rintro e7 w7 ⟨rfl, h, _⟩
            replace H := Lib.hid (h.new #[.int .i64 x0, .int .i64 W, .int .i64 x2, .int .i64 0, .int .i64 R] 45)
            clear h HC k0 k1 k2 k3 k4
            obtain ⟨y0, y1, y2, y3, y4⟩ := cells5' (H.out.at (.head _))
            go_wp2
            go_roundw
            case rel => exact ⟨t + 1, L2, O2, by go_num, by first | rfl | simp [hL2], by first | rfl | simp [hO2], by omega, hL20, hL21, hO20, hO21, H.out.drop⟩
            case measure => simp [intOf]; omega
          · obtain rfl : t = n1 := by omega
            have hex : decide ((t : Int) < G.k) = false := decide_eq_false (by omega)
            have hle : ¬ (LE + 1 < MO) := by omega
            go_wp2
            go_roundw
            case rel => exact ⟨j + 1, f4, M', by go_num, by omega, by omega, by omega, HE4.out, H.out⟩
            case measure => simp [intOf]; omega

theorem own : ownKnob Try.prog.godebug = none := by kernel_rfl
theorem laid : laidOutB Try.prog = true := by kernel_rfl
theorem one64 : Try.prog.cellsOf 3 = 1 := by kernel_rfl

set_option maxRecDepth 100000 in
theorem lifted (os : Os) (started : os.Started) (H : Type) (enc : TypeId × Value → H) :
    ReturnsInHanded {} Try.checked os 7 .any (Rows.linesSpreadSpec.pre6 enc Try.prog Try.f7 Rows.linesSpreadRow.domain false) (Rows.linesSpreadSpec.post enc Try.prog Try.f7 false true false false) := by
  refine returnsInHanded_of_change (C := Try.checked) own started (by kernel_rfl) Try.func7
    (ChangeSpec.witness6 (enc := enc) (C := Try.checked) false ⟨#[], #[.agg #[.int .i64 0, .int .i64 0, .int .i64 0, .int .i64 0, .int .i64 0], .agg #[.int .i64 0, .int .i64 0], .slice none 0 0], []⟩ 8 (by kernel_rfl) (by kernel_rfl) (by kernel_rfl) (by kernel_rfl)) ?_
  intro W base args ds gs before hval0 hW _ _
  have hval : ∀ (j : Nat) t v, Try.f7.params[j]? = some t → args[j]? = some v → Value.okWide Try.prog W .any base t v := hval0
  have hW' := hW
  obtain ⟨p, q, hA0, hV, rfl, hfz, hnd⟩ := hW
  have hA : DataW.TrodAll enc Try.prog W 0 (fun _ => true) true Try.f7.params.toList args.toList ds p := hA0
  rw [Try.params7] at hA hval
  obtain ⟨v0, v1, v2, d0, d1, d2, p0, p1, p2, rfl, rfl, rfl, h0, h1, h2⟩ := trodAll_three hA
  obtain ⟨c0, l0, k0, q0, s0, rfl⟩ := open_geo Try.underlying23 rfl (by kernel_rfl) (by kernel_rfl) (hval 0 23 v0 rfl rfl) h0
  obtain ⟨y1, z1, rfl, hby1, hbz1⟩ := open_ints2 Try.underlying52 (by kernel_rfl) Try.underlying3 one64 (hval 1 52 v1 rfl rfl) h1
  obtain ⟨A2, n2, c2, rfl, hnc2, hcm2, hr2⟩ := LinesOps.open_bools (hval 2 53 v2 rfl rfl) h2
  refine (walk c0 l0 k0 q0 s0 y1 z1 A2 n2 c2 W hby1.1 hby1.2 hbz1.1 hbz1.2 hnc2 hcm2 hr2).mono fun e W' ⟨he, hb⟩ => ?_
  subst he
  exact ⟨_, rfl, Law.post laid (by kernel_rfl) (by kernel_rfl) Try.underlying4 rfl hW' rfl hb⟩

theorem proved : Rows.LinesSpreadSaid :=
  OpenClaim.holds_of_wide 7 Try.f7 rfl rfl rfl rfl rfl rfl rfl ⟨rfl, rfl, rfl, rfl, rfl⟩ rfl rfl rfl rfl rfl (by kernel_rfl) Try.func7 (by kernel_rfl)
    (of_decide_eq_true (by kernel_rfl)) (by unfold Func.isWrapper; first | (rw [if_pos (by decide +kernel)]; kernel_rfl) | (rw [if_neg (by decide +kernel)]; exact ⟨rfl, rfl⟩))
    (fun os started H enc _ => lifted os started H enc)

end Go.Proofs.Ytnnonkmkdjhacaa.linesSpread
