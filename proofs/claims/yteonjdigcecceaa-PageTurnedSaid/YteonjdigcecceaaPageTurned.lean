/-
  PageTurned holds: a page of which one byte was turned tells all its slots but that one; for whatever slots came in. No condition.
-/
import Derived.Test.YteonjdigcecceaaPageKit
import Derived.Test.YteonjdigcecceaaPageOps
import Derived.OpenShut
import Derived.BigQuiet
import Derived.Test.YteonjdigcecceaaPageTurn
import Derived.Test.YteonjdigcecceaaArrays
import Derived.Deep.DeepCutAuto
namespace Go.Proofs.Yteonjdigcecceaa.pageTurned
open Go.RowKit Go.ChangeShapes Go.WideShapes Page PagePkg PageLaw Lib
set_option maxRecDepth 4000

set_option maxHeartbeats 8000000 in
theorem walk (n : Int) (A : Option Addr) (m c : Nat) (ss : List Sl) (x0 x1 x2 : Int) (w : World) (_hn0 : -9223372036854775808 ≤ n) (_hn1 : n ≤ 9223372036854775807) (hnc : m ≤ c) (hcm : c ≤ maxLen) (hr : Slots w w.heap.size A m ss) :
    Calls Try.prog 7 #[.int .i64 n, .slice A m c, .agg #[.int .i64 x0, .int .i64 x1, .int .i64 x2]] w fun e w' => e = .returned (.bool true) ∧ Below w.heap.size w w' := by
  obtain ⟨W0, hW0⟩ : ∃ W0, W0 = w.alloc (.cells #[.int .i64 x0, .int .i64 x1, .int .i64 x2] 47) := ⟨_, rfl⟩
  have HB0 := Lib.hid (show Below w.heap.size w W0 by rw [hW0]; exact (Below.refl _ _).alloc (Nat.le_refl _) _)
  have HX0 := Lib.hid (show W0.heap[w.heap.size]? = some _ by rw [hW0]; exact heap_alloc_new w _)
  have HW0 := Lib.hid hW0
  clear hW0
  have HA := Lib.hid (awake_any W0)
  have HSL := Lib.hid (fun X (hX : Below w.heap.size w X) => slim_any A m c ss X (hr.below hX) ⟨hnc, hcm⟩)
  have HBU := Lib.hid (fun X (hX : Below w.heap.size w X) => Build_any n A m c ss X (hr.below hX))
  have HR := Lib.hid hr
  have HM := Lib.hid hr.len
  clear hr hnc hcm
  by_cases hs : Slim ss
  · simp only [decide_eq_true hs] at HSL
    have HSM := Lib.hid hs
    clear hs
    obtain ⟨t, ht⟩ : ∃ t, IntKind.u8.wrap x2 = t := ⟨_, rfl⟩
    have ht01 : 0 ≤ t ∧ t < 256 := by rw [← ht, IntKind.wrap_u8]; omega
    by_cases hn0 : x0 < 0
    · go_enter Try.func7, Try.ntmps7
      go_wp2_with fail
      rw [← HW0.out]
      refine HA.out.mono ?_
      rintro e w1 ⟨rfl, hb⟩
      have HB := Lib.hid (below_on HB0.out hb HB0.out.size)
      have HX1 := Lib.hid ((hb.block w.heap.size (Array.getElem?_eq_some_iff.1 HX0.out).1).trans HX0.out)
      clear hb HA
      go_wp2_with fail
      refine (HSL.out w1 HB.out).mono ?_
      rintro e w2 ⟨rfl, hw⟩
      subst w2
      clear HSL
      obtain ⟨c0, c1, c2, _, _, _⟩ := three_cells HX1.out
      go_wp2
      go_ret
      exact ⟨rfl, HB.out⟩
    by_cases hn1 : x1 < 0
    · go_enter Try.func7, Try.ntmps7
      go_wp2_with fail
      rw [← HW0.out]
      refine HA.out.mono ?_
      rintro e w1 ⟨rfl, hb⟩
      have HB := Lib.hid (below_on HB0.out hb HB0.out.size)
      have HX1 := Lib.hid ((hb.block w.heap.size (Array.getElem?_eq_some_iff.1 HX0.out).1).trans HX0.out)
      clear hb HA
      go_wp2_with fail
      refine (HSL.out w1 HB.out).mono ?_
      rintro e w2 ⟨rfl, hw⟩
      subst w2
      clear HSL
      obtain ⟨c0, c1, c2, _, _, _⟩ := three_cells HX1.out
      go_wp2
      go_ret
      exact ⟨rfl, HB.out⟩
    by_cases htz : t = 0
    · have htz2 : (t == 0) = true := by simp [htz]
      clear htz
      go_enter Try.func7, Try.ntmps7
      go_wp2_with fail
      rw [← HW0.out]
      refine HA.out.mono ?_
      rintro e w1 ⟨rfl, hb⟩
      have HB := Lib.hid (below_on HB0.out hb HB0.out.size)
      have HX1 := Lib.hid ((hb.block w.heap.size (Array.getElem?_eq_some_iff.1 HX0.out).1).trans HX0.out)
      clear hb HA
      go_wp2_with fail
      refine (HSL.out w1 HB.out).mono ?_
      rintro e w2 ⟨rfl, hw⟩
      subst w2
      clear HSL
      obtain ⟨c0, c1, c2, _, _, _⟩ := three_cells HX1.out
      go_wp2
      go_ret
      exact ⟨rfl, HB.out⟩
    have htz2 : (t == 0) = false := by simp [htz]
    obtain ⟨X0, rfl⟩ := Int.eq_ofNat_of_zero_le (show 0 ≤ x0 by omega)
    obtain ⟨X1, rfl⟩ := Int.eq_ofNat_of_zero_le (show 0 ≤ x1 by omega)
    have HTP := Lib.hid (show 0 < t ∧ t < 256 by omega)
    clear htz hn0 hn1 ht01
    by_cases hg : fits n m ∧ ∀ p ∈ ss.map Sl.pc, p.Ok
    · obtain ⟨hf, hok⟩ := hg
      obtain ⟨N, rfl⟩ : ∃ N : Nat, n = (N : Int) := ⟨n.toNat, by unfold fits at hf; omega⟩
      have hm1 : 1 ≤ m := hf.1
      have hmN : m ≤ N := by have := hf.2.1; omega
      have hN4 : N ≤ 4 := by have := hf.2.2; omega
      have HF := Lib.hid (show fits (N : Int) (ss.map Sl.pc).length by rw [List.length_map, HM.out]; exact hf)
      have HOK := Lib.hid hok
      clear hf hok
      go_enter Try.func7, Try.ntmps7
      go_wp2_with fail
      rw [← HW0.out]
      refine HA.out.mono ?_
      rintro e w1 ⟨rfl, hb⟩
      have HB := Lib.hid (below_on HB0.out hb HB0.out.size)
      have HX1 := Lib.hid ((hb.block w.heap.size (Array.getElem?_eq_some_iff.1 HX0.out).1).trans HX0.out)
      clear hb HA
      go_wp2_with fail
      refine (HSL.out w1 HB.out).mono ?_
      rintro e w2 ⟨rfl, hw⟩
      subst w2
      clear HSL
      obtain ⟨c0, c1, c2, _, _, _⟩ := three_cells HX1.out
      go_wp2_with fail
      refine (HBU.out w1 HB.out).mono ?_
      intro e w2 hbt
      obtain ⟨A1, c1, A2, c2, qs, rfl, h1, h2, hpg, htwo, hc1, hc2, hm1', hm2', hb⟩ := built_yes hbt HF.out HOK.out
      have HB2 := Lib.hid (below_on HB.out hb HB.out.size)
      have HD := Lib.hid h1
      have HO := Lib.hid h2
      have HPG := Lib.hid hpg
      have HTWO := Lib.hid htwo
      have HX2 := Lib.hid ((hb.block w.heap.size (Array.getElem?_eq_some_iff.1 HX1.out).1).trans HX1.out)
      clear hbt h1 h2 hpg htwo hb HBU
      obtain ⟨y0, y1, y2, _, _, _⟩ := three_cells HX2.out
      obtain ⟨a, ha⟩ : ∃ a : Nat, a = X0 % m := ⟨_, rfl⟩
      obtain ⟨k, hk⟩ : ∃ k : Nat, k = X1 % 33 := ⟨_, rfl⟩
      have ham : a < m := by rw [ha]; exact Nat.mod_lt _ hm1
      have hk33 : k < 33 := by omega
      have hra : (X0 : Int) % (m : Int) = (a : Int) := by rw [ha]; exact (Int.natCast_emod X0 m).symm
      have hrk : (X1 : Int) % 33 = (k : Int) := by omega
      clear ha hk
      have ha2 : (a : Int) < (N : Int) := by omega
      have ha0 : (0 : Int) ≤ (a : Int) := by omega
      have hql : qs.length = N := by have h := congrArg List.length HTWO.out; rw [List.length_map, List.length_map, fill_len (by rw [List.length_map, HM.out]; exact hmN)] at h; exact h
      obtain ⟨r, hr⟩ : ∃ r, qs[a]? = some r := ⟨_, List.getElem?_eq_getElem (by omega)⟩
      obtain ⟨l16, l17⟩ := two_len HTWO.out HOK.out hr
      obtain ⟨p1, p2, u1, u2, e1, e2, z1, z2, f1, f2⟩ := pg_cells HPG.out hr
      rw [l16] at z1 f1
      rw [l17] at z2 f2
      subst e1 e2
      have hlie := HPG.out.lie r (List.mem_of_getElem? hr)
      have HLO := Lib.hid hlie.2.2
      have HRQ := Lib.hid hr
      by_cases hk16 : k < 16
      · have hk16' : (k : Int) < 16 := by omega
        have hk0 : (0 : Int) ≤ (k : Int) := by omega
        obtain ⟨z, hz⟩ : ∃ z, r.d[k]? = some z := ⟨_, List.getElem?_eq_getElem (by omega)⟩
        obtain ⟨b1, b2⟩ := hlie.1.cell hz
        have hturn := turn_is z t (by have := HTP.out; omega) HTP.out.2
        have HALL := Lib.hid (turned_d HTWO.out HOK.out (by rw [HM.out]; exact hmN) (by rw [HM.out]; exact ham) hr hz (turn_ne z t HTP.out.1 HTP.out.2))
        have HPT := Lib.hid (pg_set1 HPG.out hr k (turn z t))
        generalize turn z t = zt at hturn HALL HPT
        obtain ⟨g1, hg1⟩ : ∃ g1, g1 = r.g := ⟨_, rfl⟩
        rw [← hg1] at z1 b1 b2 HPT HLO
        clear hlie hr hg1 HD HO HX1 HX2 c0
        go_upto_region 17 with (go_region)
        simp only [hra, hrk]
        have hbys := pg_bys HPT.out
        have HB3 := Lib.hid ((HB2.out.setCell (p := ⟨g1, k, none⟩) (u := .int .u8 (zt.toNat : Int)) (by have := HLO.out; have := HB.out.size; show w.heap.size ≤ g1; omega)).drew)
        have HRD := Lib.hid (Read_any _ _ N c1 N c2 _ _ (w2.setCell ⟨g1, k, none⟩ (.int .u8 (zt.toNat : Int))).drew (hbys.1.below (Below.refl _ _).drew) (hbys.2.below (Below.refl _ _).drew) (by omega))
        rw [HALL.out, HM.out] at HRD
        clear hbys HPT HALL HPG HTWO z1 z2 b1 b2 y0 y1 y2
        go_wp2_with fail
        refine HRD.out.mono ?_
        rintro e w4 ⟨v, rs, rfl, hh, hkey, hb⟩
        have hl : rs.length = m - 1 := by have := congrArg List.length hkey; simpa [but] using this
        obtain ⟨M, rfl⟩ : ∃ M, m = M + 1 := ⟨m - 1, by omega⟩
        rw [Nat.add_sub_cancel] at hl
        have hmM : ((M + 1 : Nat) : Int) - 1 = (M : Int) := by omega
        obtain ⟨A6, c6, hv, _, _, hA⟩ := hh.form
        rw [hl] at hv hA
        subst hv
        have HH := Lib.hid hh
        have HKEY := Lib.hid hkey
        have HA6 := Lib.hid hA
        have HB4 := Lib.hid (below_on HB3.out hb HB3.out.size)
        clear hh hkey hb hA hl HRD
        go_wp2
        go_loopw [15] (fun i wr => ∃ j : Nat, i = .int .i64 (j : Int) ∧ j ≤ M ∧ Below w4.heap.size w4 wr) (fun i _ => M - (intOf i).toNat)
        case atStart => exact ⟨0, rfl, by omega, Below.refl _ _⟩
        case round =>
          obtain ⟨j, rfl, hj, hbw⟩ := hrel
          have HBW := Lib.hid hbw
          have HBA := Lib.hid (below_on HB4.out hbw HB4.out.size)
          clear hbw
          by_cases hjm : j < M
          · have hjm2 : (j : Int) < (M : Int) := by omega
            have hj0 : (0 : Int) ≤ (j : Int) := by omega
            obtain ⟨q, hq⟩ : ∃ q : Nat, q = if j < a then j else j + 1 := ⟨_, rfl⟩
            have hqm : q < M + 1 := by split at hq <;> omega
            obtain ⟨x, hx⟩ : ∃ x, ss[q]? = some x := ⟨_, List.getElem?_eq_getElem (by rw [HM.out]; exact hqm)⟩
            obtain ⟨rr, hrr, hz, _⟩ := but_row HKEY.out hq hx (by omega)
            obtain ⟨zl, Ar, cr, d'⟩ := rr
            dsimp only at hz
            subst hz
            obtain ⟨g, hA, _, _⟩ := HA6.out (by omega)
            subst hA
            have hhw := HH.out.below HBW.out
            have q0 := hhw.cell hrr (j := 0) rfl
            have q2 := hhw.cell hrr (j := 2) rfl
            have q3 := hhw.cell hrr (j := 3) rfl
            rw [Nat.add_zero] at q0
            obtain ⟨b, off, Ap, cp, hA, hat⟩ := (HR.out.keep HBA.out).at_ q x hx
            subst hA
            have k1 := hat.c1
            have k2 := hat.c2
            obtain ⟨xk, xl, xs, xd, xf⟩ := x
            dsimp only at k1 k2 q2 q3
            have hqm2 : (q : Int) < ((M + 1 : Nat) : Int) := by omega
            have hq0 : (0 : Int) ≤ (q : Int) := by omega
            clear hat hhw hrr hx
            by_cases hja : j < a
            · have hqj : q = j := by rw [hq, if_pos hja]
              subst hqj
              have hja2 : ¬ (a : Int) ≤ (q : Int) := by omega
              clear hq hja
              go_wp2
              go_quiet (fail)
              go_wp2
              go_roundw
              case measure => simp [intOf]; omega
              case rel => exact ⟨q + 1, by go_num, by omega, below_draws HBW.out _⟩
            · have hqj : q = j + 1 := by rw [hq, if_neg hja]
              have hqj2 : (j : Int) + 1 = (q : Int) := by omega
              have hja2 : (a : Int) ≤ (j : Int) := by omega
              clear hq hja hqj
              go_wp2
              go_quiet (fail)
              go_wp2
              go_roundw
              case measure => simp [intOf]; omega
              case rel => exact ⟨j + 1, by go_num, by omega, below_draws HBW.out _⟩
          · obtain rfl : j = M := by omega
            go_wp2
            go_ret
            exact ⟨rfl, HBA.out⟩
      · have hk16' : ¬ (k : Int) < 16 := by omega
        obtain ⟨k', rfl⟩ : ∃ k', k = k' + 16 := ⟨k - 16, by omega⟩
        have hks : ((k' + 16 : Nat) : Int) - 16 = (k' : Int) := by omega
        have hk17 : (k' : Int) < 17 := by omega
        have hk0 : (0 : Int) ≤ (k' : Int) := by omega
        obtain ⟨z, hz⟩ : ∃ z, r.c[k']? = some z := ⟨_, List.getElem?_eq_getElem (by omega)⟩
        obtain ⟨b1, b2⟩ := hlie.2.1.cell hz
        have hturn := turn_is z t (by have := HTP.out; omega) HTP.out.2
        have HALL := Lib.hid (turned_c HTWO.out HOK.out (by rw [HM.out]; exact hmN) (by rw [HM.out]; exact ham) hr hz (turn_ne z t HTP.out.1 HTP.out.2))
        have HPT := Lib.hid (pg_set2 HPG.out hr k' (turn z t))
        generalize turn z t = zt at hturn HALL HPT
        obtain ⟨g2, hg2⟩ : ∃ g2, g2 = r.h := ⟨_, rfl⟩
        rw [← hg2] at z2 b1 b2 HPT HLO
        clear hlie hr hg2 HD HO HX1 HX2 c0
        go_upto_region 17 with (go_region)
        simp only [hra, hrk]
        have hbys := pg_bys HPT.out
        have HB3 := Lib.hid ((HB2.out.setCell (p := ⟨g2, k', none⟩) (u := .int .u8 (zt.toNat : Int)) (by have := HLO.out; have := HB.out.size; show w.heap.size ≤ g2; omega)).drew)
        have HRD := Lib.hid (Read_any _ _ N c1 N c2 _ _ (w2.setCell ⟨g2, k', none⟩ (.int .u8 (zt.toNat : Int))).drew (hbys.1.below (Below.refl _ _).drew) (hbys.2.below (Below.refl _ _).drew) (by omega))
        rw [HALL.out, HM.out] at HRD
        clear hbys HPT HALL HPG HTWO z1 z2 b1 b2 y0 y1 y2
        go_wp2_with fail
        refine HRD.out.mono ?_
        rintro e w4 ⟨v, rs, rfl, hh, hkey, hb⟩
        have hl : rs.length = m - 1 := by have := congrArg List.length hkey; simpa [but] using this
        obtain ⟨M, rfl⟩ : ∃ M, m = M + 1 := ⟨m - 1, by omega⟩
        rw [Nat.add_sub_cancel] at hl
        have hmM : ((M + 1 : Nat) : Int) - 1 = (M : Int) := by omega
        obtain ⟨A6, c6, hv, _, _, hA⟩ := hh.form
        rw [hl] at hv hA
        subst hv
        have HH := Lib.hid hh
        have HKEY := Lib.hid hkey
        have HA6 := Lib.hid hA
        have HB4 := Lib.hid (below_on HB3.out hb HB3.out.size)
        clear hh hkey hb hA hl HRD
        go_wp2
        go_loopw [15] (fun i wr => ∃ j : Nat, i = .int .i64 (j : Int) ∧ j ≤ M ∧ Below w4.heap.size w4 wr) (fun i _ => M - (intOf i).toNat)
        case atStart => exact ⟨0, rfl, by omega, Below.refl _ _⟩
        case round =>
          obtain ⟨j, rfl, hj, hbw⟩ := hrel
          have HBW := Lib.hid hbw
          have HBA := Lib.hid (below_on HB4.out hbw HB4.out.size)
          clear hbw
          by_cases hjm : j < M
          · have hjm2 : (j : Int) < (M : Int) := by omega
            have hj0 : (0 : Int) ≤ (j : Int) := by omega
            obtain ⟨q, hq⟩ : ∃ q : Nat, q = if j < a then j else j + 1 := ⟨_, rfl⟩
            have hqm : q < M + 1 := by split at hq <;> omega
            obtain ⟨x, hx⟩ : ∃ x, ss[q]? = some x := ⟨_, List.getElem?_eq_getElem (by rw [HM.out]; exact hqm)⟩
            obtain ⟨rr, hrr, hz, _⟩ := but_row HKEY.out hq hx (by omega)
            obtain ⟨zl, Ar, cr, d'⟩ := rr
            dsimp only at hz
            subst hz
            obtain ⟨g, hA, _, _⟩ := HA6.out (by omega)
            subst hA
            have hhw := HH.out.below HBW.out
            have q0 := hhw.cell hrr (j := 0) rfl
            have q2 := hhw.cell hrr (j := 2) rfl
            have q3 := hhw.cell hrr (j := 3) rfl
            rw [Nat.add_zero] at q0
            obtain ⟨b, off, Ap, cp, hA, hat⟩ := (HR.out.keep HBA.out).at_ q x hx
            subst hA
            have k1 := hat.c1
            have k2 := hat.c2
            obtain ⟨xk, xl, xs, xd, xf⟩ := x
            dsimp only at k1 k2 q2 q3
            have hqm2 : (q : Int) < ((M + 1 : Nat) : Int) := by omega
            have hq0 : (0 : Int) ≤ (q : Int) := by omega
            clear hat hhw hrr hx
            by_cases hja : j < a
            · have hqj : q = j := by rw [hq, if_pos hja]
              subst hqj
              have hja2 : ¬ (a : Int) ≤ (q : Int) := by omega
              clear hq hja
              go_wp2
              go_quiet (fail)
              go_wp2
              go_roundw
              case measure => simp [intOf]; omega
              case rel => exact ⟨q + 1, by go_num, by omega, below_draws HBW.out _⟩
            · have hqj : q = j + 1 := by rw [hq, if_neg hja]
              have hqj2 : (j : Int) + 1 = (q : Int) := by omega
              have hja2 : (a : Int) ≤ (j : Int) := by omega
              clear hq hja hqj
              go_wp2
              go_quiet (fail)
              go_wp2
              go_roundw
              case measure => simp [intOf]; omega
              case rel => exact ⟨j + 1, by go_num, by omega, below_draws HBW.out _⟩
          · obtain rfl : j = M := by omega
            go_wp2
            go_ret
            exact ⟨rfl, HBA.out⟩
    · have HNO := Lib.hid (show ¬ (fits n (ss.map Sl.pc).length ∧ ∀ p ∈ ss.map Sl.pc, p.Ok) by rw [List.length_map, HM.out]; exact hg)
      clear hg
      go_enter Try.func7, Try.ntmps7
      go_wp2_with fail
      rw [← HW0.out]
      refine HA.out.mono ?_
      rintro e w1 ⟨rfl, hb⟩
      have HB := Lib.hid (below_on HB0.out hb HB0.out.size)
      have HX1 := Lib.hid ((hb.block w.heap.size (Array.getElem?_eq_some_iff.1 HX0.out).1).trans HX0.out)
      clear hb HA
      go_wp2_with fail
      refine (HSL.out w1 HB.out).mono ?_
      rintro e w2 ⟨rfl, hw⟩
      subst w2
      clear HSL
      obtain ⟨c0, c1, c2, _, _, _⟩ := three_cells HX1.out
      go_wp2_with fail
      refine (HBU.out w1 HB.out).mono ?_
      intro e w2 hbt
      obtain ⟨rfl, hb⟩ := built_no hbt HNO.out
      have HB2 := Lib.hid (below_on HB.out hb HB.out.size)
      clear hbt hb HBU
      go_wp2
      go_ret
      exact ⟨rfl, HB2.out⟩
  · simp only [decide_eq_false hs] at HSL
    clear hs
    go_enter Try.func7, Try.ntmps7
    go_wp2_with fail
    rw [← HW0.out]
    refine HA.out.mono ?_
    rintro e w1 ⟨rfl, hb⟩
    have HB := Lib.hid (below_on HB0.out hb HB0.out.size)
    have HX1 := Lib.hid ((hb.block w.heap.size (Array.getElem?_eq_some_iff.1 HX0.out).1).trans HX0.out)
    clear hb HA
    go_wp2_with fail
    refine (HSL.out w1 HB.out).mono ?_
    rintro e w2 ⟨rfl, hw⟩
    subst w2
    clear HSL
    go_wp2
    go_ret
    exact ⟨rfl, HB.out⟩

theorem own : ownKnob Try.prog.godebug = none := by kernel_rfl
theorem laid : laidOutB Try.prog = true := by kernel_rfl
theorem one64 : Try.prog.cellsOf 3 = 1 := by kernel_rfl

set_option maxRecDepth 100000 in
theorem lifted (os : Os) (started : os.Started) (H : Type) (enc : TypeId × Value → H) :
    ReturnsInHanded {} Try.checked os 7 .any (Rows.pageTurnedSpec.pre6 enc Try.prog Try.f7 Rows.pageTurnedRow.domain false) (Rows.pageTurnedSpec.post enc Try.prog Try.f7 false true false false) := by
  refine returnsInHanded_of_change (C := Try.checked) own started (by kernel_rfl) Try.func7
    (ChangeSpec.witness6 (enc := enc) (C := Try.checked) false ⟨#[], #[.int .i64 0, .slice none 0 0, .agg #[.int .i64 0, .int .i64 0, .int .i64 0]], []⟩ 8 (by kernel_rfl) (by kernel_rfl) (by kernel_rfl) (by kernel_rfl)) ?_
  intro W base args ds gs before hval0 hW _ _
  have hval : ∀ (j : Nat) t v, Try.f7.params[j]? = some t → args[j]? = some v → Value.okWide Try.prog W .any base t v := hval0
  have hW' := hW
  obtain ⟨p, q, hA0, hV, rfl, hfz, hnd⟩ := hW
  have hA : DataW.TrodAll enc Try.prog W 0 (fun _ => true) true Try.f7.params.toList args.toList ds p := hA0
  rw [Try.params7] at hA hval
  obtain ⟨v0, v1, v2, d0, d1, d2, p0, p1, p2, rfl, rfl, rfl, h0, h1, h2⟩ := trodAll_three hA
  obtain ⟨a0, rfl, rfl, rfl, wf0⟩ := open_int Try.underlying3 (hval 0 3 v0 rfl rfl) h0
  have hb0 : -9223372036854775808 ≤ a0 ∧ a0 ≤ 9223372036854775807 := by simpa [Lit.wf, IntKind.min, IntKind.max, IntKind.signed, IntKind.bits] using wf0
  obtain ⟨A1, n1, c1, l1, rfl, hnc1, hcm1, hr1⟩ := PageOps.open_slots (hval 1 22 v1 rfl rfl) h1
  obtain ⟨y2, z2, t2, rfl⟩ := open_ints3 Try.underlying47 (by kernel_rfl) Try.underlying3 one64 (hval 2 47 v2 rfl rfl) h2
  refine (walk a0 A1 n1 c1 l1 y2 z2 t2 W hb0.1 hb0.2 hnc1 hcm1 hr1).mono fun e W' ⟨he, hb⟩ => ?_
  subst he
  exact ⟨_, rfl, Law.post laid (by kernel_rfl) (by kernel_rfl) Try.underlying4 rfl hW' rfl hb⟩

theorem proved : Rows.PageTurnedSaid :=
  OpenClaim.holds_of_wide 7 Try.f7 rfl rfl rfl rfl rfl rfl rfl ⟨rfl, rfl, rfl, rfl, rfl⟩ rfl rfl rfl rfl rfl (by kernel_rfl) Try.func7 (by kernel_rfl)
    (of_decide_eq_true (by kernel_rfl)) (by unfold Func.isWrapper; first | (rw [if_pos (by decide +kernel)]; kernel_rfl) | (rw [if_neg (by decide +kernel)]; exact ⟨rfl, rfl⟩))
    (fun os started H enc _ => lifted os started H enc)

end Go.Proofs.Yteonjdigcecceaa.pageTurned
