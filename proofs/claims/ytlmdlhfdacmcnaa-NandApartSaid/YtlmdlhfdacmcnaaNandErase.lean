/-
  What package nand does: Erase, Retire.
-/
import Derived.Test.YtlmdlhfdacmcnaaNandProg
namespace Go.Proofs.Ytlmdlhfdacmcnaa.NandPkg
open Go.RowKit Nand
set_option maxRecDepth 4000

theorem at_wldc {p : Program} {f : Nat} {args : Array Value} {Q : Ending → World → Prop} {W : World} (h : ∀ X, X = W → Calls p f args X Q) : Calls p f args W Q := h W rfl

section
variable {G : Shape} {w : World} {P : Pl} {st : St} {D : Nat → Prop}

theorem erase_off (h : Dev G w P st) (hoff : st.off = true) (u b : Int) :
    Calls Try.prog 29 #[ptr P.g, .int .i64 u, .int .i64 b] w fun e w' => e = .returned (.int .i64 5) ∧ w' = w := by
  have HO := Lib.hid (Off_any h)
  rw [hoff] at HO
  clear h hoff
  go_enter Try.func29, Try.ntmps29
  go_wp2_with fail
  refine HO.out.mono ?_
  rintro e w2 ⟨rfl, rfl⟩
  go_wp2
  go_ret
  exact ⟨rfl, rfl⟩

theorem erase_no (hG : G.Ok) (h : Dev G w P st) (hoff : st.off = false) (u b : Int) (hh : ¬ has G u b) :
    Calls Try.prog 29 #[ptr P.g, .int .i64 u, .int .i64 b] w fun e w' => e = .returned (.int .i64 1) ∧ Dev G w' P st.refused ∧ Turn P.own P.own w w' := by
  have HO := Lib.hid (Off_any h)
  rw [hoff] at HO
  have HM := Lib.hid (block_no hG h u b hh)
  have H := Lib.hid h
  clear h hoff
  go_enter Try.func29, Try.ntmps29
  go_wp2_with fail
  refine HO.out.mono ?_
  rintro e w2 ⟨rfl, hw⟩
  subst w2
  go_wp2_with fail
  refine HM.out.mono ?_
  rintro e w3 ⟨rfl, hb⟩
  have HR := Lib.hid (refuse_any (H.out.below hb) 1)
  have HB := Lib.hid hb
  clear hb
  go_wp2_with fail
  refine HR.out.mono ?_
  rintro e w4 ⟨rfl, hd, ht⟩
  have HD := Lib.hid hd
  have HT := Lib.hid ((Turn.of_below P.own HB.out).trans ht)
  clear hd ht
  go_wp2
  go_ret
  exact ⟨rfl, HD.out, HT.out⟩

theorem retire_off (h : Dev G w P st) (hoff : st.off = true) (u b : Int) :
    Calls Try.prog 30 #[ptr P.g, .int .i64 u, .int .i64 b] w fun e w' => e = .returned (.int .i64 5) ∧ w' = w := by
  have HO := Lib.hid (Off_any h)
  rw [hoff] at HO
  clear h hoff
  go_enter Try.func30, Try.ntmps30
  go_wp2_with fail
  refine HO.out.mono ?_
  rintro e w2 ⟨rfl, rfl⟩
  go_wp2
  go_ret
  exact ⟨rfl, rfl⟩

theorem retire_no (hG : G.Ok) (h : Dev G w P st) (hoff : st.off = false) (u b : Int) (hh : ¬ has G u b) :
    Calls Try.prog 30 #[ptr P.g, .int .i64 u, .int .i64 b] w fun e w' => e = .returned (.int .i64 1) ∧ Dev G w' P st.refused ∧ Turn P.own P.own w w' := by
  have HO := Lib.hid (Off_any h)
  rw [hoff] at HO
  have HM := Lib.hid (block_no hG h u b hh)
  have H := Lib.hid h
  clear h hoff
  go_enter Try.func30, Try.ntmps30
  go_wp2_with fail
  refine HO.out.mono ?_
  rintro e w2 ⟨rfl, hw⟩
  subst w2
  go_wp2_with fail
  refine HM.out.mono ?_
  rintro e w3 ⟨rfl, hb⟩
  have HR := Lib.hid (refuse_any (H.out.below hb) 1)
  have HB := Lib.hid hb
  clear hb
  go_wp2_with fail
  refine HR.out.mono ?_
  rintro e w4 ⟨rfl, hd, ht⟩
  have HD := Lib.hid hd
  have HT := Lib.hid ((Turn.of_below P.own HB.out).trans ht)
  clear hd ht
  go_wp2
  go_ret
  exact ⟨rfl, HD.out, HT.out⟩

theorem erase_bad (hG : G.Ok) (h : Dev G w P st) (hoff : st.off = false) (u b : Int) (hh : has G u b) (hrt : st.rt (blk G u b) = true) :
    Calls Try.prog 29 #[ptr P.g, .int .i64 u, .int .i64 b] w fun e w' => e = .returned (.int .i64 10) ∧ Dev G w' P st.refused ∧ Turn P.own P.own w w' := by
  have HO := Lib.hid (Off_any h)
  rw [hoff] at HO
  have HM := Lib.hid (block_ok hG h u b hh)
  have HT3 := Lib.hid (fun w (hd : Dev G w P st) => (hd.three hG hh).2.2)
  rw [hrt] at HT3
  have H := Lib.hid h
  generalize blk G u b = j at HM HT3
  clear h hoff hrt
  go_enter Try.func29, Try.ntmps29
  go_wp2_with fail
  refine HO.out.mono ?_
  rintro e w2 ⟨rfl, hw⟩
  subst w2
  go_wp2_with fail
  refine HM.out.mono ?_
  rintro e w3 ⟨rfl, hb⟩
  have t2 := HT3.out w3 (H.out.below hb)
  have HR := Lib.hid (refuse_any (H.out.below hb) 10)
  have HB := Lib.hid hb
  clear hb
  go_wp2_with fail
  refine HR.out.mono ?_
  rintro e w4 ⟨rfl, hd, ht⟩
  have HD := Lib.hid hd
  have HT := Lib.hid ((Turn.of_below P.own HB.out).trans ht)
  clear hd ht
  go_wp2
  go_ret
  exact ⟨rfl, HD.out, HT.out⟩

theorem retire_ok (hG : G.Ok) (h : Dev G w P st) (hoff : st.off = false) (u b : Int) (hh : has G u b) :
    Calls Try.prog 30 #[ptr P.g, .int .i64 u, .int .i64 b] w fun e w' => e = .returned (.int .i64 0) ∧ Dev G w' P { st with rt := upd st.rt (blk G u b) true } ∧ Turn P.own P.own w w' := by
  have HO := Lib.hid (Off_any h)
  rw [hoff] at HO
  have HM := Lib.hid (block_ok hG h u b hh)
  have HT3 := Lib.hid (fun w (hd : Dev G w P st) => (hd.three hG hh).2.2)
  have H := Lib.hid h
  generalize blk G u b = j at HM HT3 ⊢
  clear h hoff
  go_enter Try.func30, Try.ntmps30
  go_wp2_with fail
  refine HO.out.mono ?_
  rintro e w2 ⟨rfl, hw⟩
  subst w2
  go_wp2_with fail
  refine HM.out.mono ?_
  rintro e w3 ⟨rfl, hb⟩
  have hd := H.out.below hb
  have t2 := HT3.out w3 hd
  have tf := hd.row.frozen (j * 3 + 2)
  have HD := Lib.hid hd
  have HB := Lib.hid hb
  clear hb hd
  go_wp2
  go_ret
  exact ⟨rfl, HD.out.set_row (j * 3 + 2) _ (fun i _ => bcell_rt st j true i) rfl rfl rfl rfl rfl, (Turn.of_below P.own HB.out).trans (Turn.of_grown (grown_setCell _ _ _) P.own_b)⟩

theorem Retire_any (hG : G.Ok) (h : Dev G w P st) (u b : Int) :
    Calls Try.prog 30 #[ptr P.g, .int .i64 u, .int .i64 b] w fun e w' => e = .returned (.int .i64 (st.retire G u b).1) ∧ Dev G w' P (st.retire G u b).2 ∧ Turn P.own P.own w w' := by
  unfold St.retire
  by_cases hoff : st.off = true
  · rw [if_pos hoff]
    refine (retire_off h hoff u b).mono ?_
    rintro e w2 ⟨rfl, rfl⟩
    exact ⟨rfl, h, Turn.refl _ _⟩
  · rw [if_neg hoff]
    replace hoff : st.off = false := by simpa using hoff
    by_cases hh : has G u b
    · rw [if_neg (fun h => h hh)]
      exact retire_ok hG h hoff u b hh
    · rw [if_pos hh]
      exact retire_no hG h hoff u b hh

theorem erase_fail (hG : G.Ok) (h : Dev G w P st) (hoff : st.off = false) (u b : Int) (hh : has G u b) (hrt : st.rt (blk G u b) = false) (hk0 : 0 ≤ st.many) (hk1 : st.many < 4611686018427387904) (hs : Plan.says st.plan = 1) :
    Calls Try.prog 29 #[ptr P.g, .int .i64 u, .int .i64 b] w fun e w' => e = .returned (.int .i64 9) ∧ Dev G w' P { st with wr := upd st.wr (blk G u b) (wrap64 (st.wr (blk G u b) + 1)), rd := wipe G u b st.rd, nx := upd st.nx (blk G u b) G.p, plan := st.plan.tail, many := st.many + 1 } ∧ Turn P.own P.own w w' := by
  have HO := Lib.hid (Off_any h)
  rw [hoff] at HO
  have HM := Lib.hid (block_ok hG h u b hh)
  have HT3 := Lib.hid (fun w (hd : Dev G w P st) => (hd.three hG hh).2)
  rw [hrt] at HT3
  have H := Lib.hid h
  have HG := Lib.hid hG
  have HH := Lib.hid hh
  have hgp : P.g ≠ P.gp := by have := h.apart.g_p; have := h.apart.lo; omega
  have hbp : P.gb ≠ P.gp := by have := h.apart.b_p; have := h.apart.lo; omega
  have hjl : blk G u b < cnt G := by
    have := (blk_lt hG hh)
    unfold cnt
    omega
  obtain ⟨j, hj⟩ : ∃ j, j = blk G u b := ⟨_, rfl⟩
  rw [← hj] at HM HT3 hjl ⊢
  have HJL := Lib.hid hjl
  have HNEXT := Lib.hid (fun w xs (hd : PlanPkg.At w P.lo P.gp xs st.many) => PlanPkg.Next_any P.lo P.gp xs st.many 0 w hd (by omega) (by omega))
  have HS := Lib.hid hs
  clear h hoff hrt hG hh hjl hj hs
  go_enter Try.func29, Try.ntmps29
  go_wp2_with fail
  refine HO.out.mono ?_
  rintro e w2 ⟨rfl, hw⟩
  subst w2
  go_wp2_with fail
  refine HM.out.mono ?_
  rintro e w3 ⟨rfl, hb⟩
  have hd := H.out.below hb
  obtain ⟨t1, t2⟩ := HT3.out w3 hd
  have tf := hd.row.frozen (j * 3 + 1)
  have HD := Lib.hid hd
  have HB := Lib.hid hb
  clear hb hd
  go_wp2_with fail
  refine at_wldc ?_
  intro X hX
  have hgr : w3.grownBy X (some P.gb) := by rw [hX]; exact grown_setCell _ _ _
  replace HD : Hid (Dev G X P { st with wr := upd st.wr j (wrap64 (st.wr j + 1)) }) := by
    rw [hX]
    exact HD.out.set_row (j * 3 + 1) _ (fun i _ => bcell_wr st j _ i) rfl rfl rfl rfl rfl
  have HT : Hid (Turn P.own P.own w X) := Lib.hid ((Turn.of_below P.own HB.out).trans (Turn.of_grown hgr P.own_b))
  clear hX hgr HB t1 t2 tf
  refine (forget_any HG.out HD.out u b HH.out).mono ?_
  rintro e w4 ⟨rfl, hd, ht⟩
  replace HD := Lib.hid hd
  replace HT := Lib.hid (HT.out.trans ht)
  have c4 : w4.cell? ⟨P.g, 4, none⟩ = some (.int .i64 G.p) := hd.cells.2.2.2.2.1
  have c6 : (w4.setCell ⟨P.gb, j * 3, none⟩ (.int .i64 G.p)).cell? ⟨P.g, 6, none⟩ = some (ptr P.gp) := ((grown_setCell w4 ⟨P.gb, j * 3, none⟩ (.int .i64 G.p)).cell hd.cells.2.2.2.2.2.2.1 (fun e => hd.apart.g_b (by injection e)))
  have t0 : w4.cell? ⟨P.gb, j * 3, none⟩ = some (bcell _ (j * 3)) := hd.row.cell (by have := HJL.out; omega)
  rw [bcell_0] at t0
  have tf := hd.row.frozen (j * 3)
  clear hd ht
  go_wp2_with fail
  refine at_wldc ?_
  intro X hX
  have hgr : w4.grownBy X (some P.gb) := by rw [hX]; exact grown_setCell _ _ _
  replace HD : Hid (Dev G X P { st with wr := upd st.wr j (wrap64 (st.wr j + 1)), rd := wipe G u b st.rd, nx := upd st.nx j G.p }) := by
    rw [hX]
    exact HD.out.set_row (j * 3) _ (fun i _ => bcell_nx _ j _ i) rfl rfl rfl rfl rfl
  replace HT : Hid (Turn P.own P.own w X) := Lib.hid (HT.out.trans (Turn.of_grown hgr P.own_b))
  clear hX hgr t0 tf c4 c6
  refine (HNEXT.out X st.plan HD.out.plan).mono ?_
  rintro e w5 ⟨rfl, hp, hg⟩
  replace HT := Lib.hid (HT.out.trans (Turn.of_grown hg (P.own_p ⟨HD.out.apart.lo, Nat.le_refl _⟩)))
  replace HD := Lib.hid (HD.out.set_next hg hp)
  rw [HS.out]
  clear hp hg
  go_wp2
  go_ret
  exact ⟨rfl, HD.out, HT.out⟩

theorem erase_cut (hG : G.Ok) (h : Dev G w P st) (hoff : st.off = false) (u b : Int) (hh : has G u b) (hrt : st.rt (blk G u b) = false) (hk0 : 0 ≤ st.many) (hk1 : st.many < 4611686018427387904) (hs : Plan.says st.plan = 2) :
    Calls Try.prog 29 #[ptr P.g, .int .i64 u, .int .i64 b] w fun e w' => e = .returned (.int .i64 5) ∧ Dev G w' P { st with wr := upd st.wr (blk G u b) (wrap64 (st.wr (blk G u b) + 1)), rd := wipe G u b st.rd, nx := upd st.nx (blk G u b) G.p, plan := st.plan.tail, many := st.many + 1, off := true } ∧ Turn P.own P.own w w' := by
  have HO := Lib.hid (Off_any h)
  rw [hoff] at HO
  have HM := Lib.hid (block_ok hG h u b hh)
  have HT3 := Lib.hid (fun w (hd : Dev G w P st) => (hd.three hG hh).2)
  rw [hrt] at HT3
  have H := Lib.hid h
  have HG := Lib.hid hG
  have HH := Lib.hid hh
  have hgp : P.g ≠ P.gp := by have := h.apart.g_p; have := h.apart.lo; omega
  have hbp : P.gb ≠ P.gp := by have := h.apart.b_p; have := h.apart.lo; omega
  have hjl : blk G u b < cnt G := by
    have := (blk_lt hG hh)
    unfold cnt
    omega
  obtain ⟨j, hj⟩ : ∃ j, j = blk G u b := ⟨_, rfl⟩
  rw [← hj] at HM HT3 hjl ⊢
  have HJL := Lib.hid hjl
  have HNEXT := Lib.hid (fun w xs (hd : PlanPkg.At w P.lo P.gp xs st.many) => PlanPkg.Next_any P.lo P.gp xs st.many 0 w hd (by omega) (by omega))
  have HS := Lib.hid hs
  clear h hoff hrt hG hh hjl hj hs
  go_enter Try.func29, Try.ntmps29
  go_wp2_with fail
  refine HO.out.mono ?_
  rintro e w2 ⟨rfl, hw⟩
  subst w2
  go_wp2_with fail
  refine HM.out.mono ?_
  rintro e w3 ⟨rfl, hb⟩
  have hd := H.out.below hb
  obtain ⟨t1, t2⟩ := HT3.out w3 hd
  have tf := hd.row.frozen (j * 3 + 1)
  have HD := Lib.hid hd
  have HB := Lib.hid hb
  clear hb hd
  go_wp2_with fail
  refine at_wldc ?_
  intro X hX
  have hgr : w3.grownBy X (some P.gb) := by rw [hX]; exact grown_setCell _ _ _
  replace HD : Hid (Dev G X P { st with wr := upd st.wr j (wrap64 (st.wr j + 1)) }) := by
    rw [hX]
    exact HD.out.set_row (j * 3 + 1) _ (fun i _ => bcell_wr st j _ i) rfl rfl rfl rfl rfl
  have HT : Hid (Turn P.own P.own w X) := Lib.hid ((Turn.of_below P.own HB.out).trans (Turn.of_grown hgr P.own_b))
  clear hX hgr HB t1 t2 tf
  refine (forget_any HG.out HD.out u b HH.out).mono ?_
  rintro e w4 ⟨rfl, hd, ht⟩
  replace HD := Lib.hid hd
  replace HT := Lib.hid (HT.out.trans ht)
  have c4 : w4.cell? ⟨P.g, 4, none⟩ = some (.int .i64 G.p) := hd.cells.2.2.2.2.1
  have c6 : (w4.setCell ⟨P.gb, j * 3, none⟩ (.int .i64 G.p)).cell? ⟨P.g, 6, none⟩ = some (ptr P.gp) := ((grown_setCell w4 ⟨P.gb, j * 3, none⟩ (.int .i64 G.p)).cell hd.cells.2.2.2.2.2.2.1 (fun e => hd.apart.g_b (by injection e)))
  have t0 : w4.cell? ⟨P.gb, j * 3, none⟩ = some (bcell _ (j * 3)) := hd.row.cell (by have := HJL.out; omega)
  rw [bcell_0] at t0
  have tf := hd.row.frozen (j * 3)
  clear hd ht
  go_wp2_with fail
  refine at_wldc ?_
  intro X hX
  have hgr : w4.grownBy X (some P.gb) := by rw [hX]; exact grown_setCell _ _ _
  replace HD : Hid (Dev G X P { st with wr := upd st.wr j (wrap64 (st.wr j + 1)), rd := wipe G u b st.rd, nx := upd st.nx j G.p }) := by
    rw [hX]
    exact HD.out.set_row (j * 3) _ (fun i _ => bcell_nx _ j _ i) rfl rfl rfl rfl rfl
  replace HT : Hid (Turn P.own P.own w X) := Lib.hid (HT.out.trans (Turn.of_grown hgr P.own_b))
  clear hX hgr t0 tf c4 c6
  refine (HNEXT.out X st.plan HD.out.plan).mono ?_
  rintro e w5 ⟨rfl, hp, hg⟩
  replace HT := Lib.hid (HT.out.trans (Turn.of_grown hg (P.own_p ⟨HD.out.apart.lo, Nat.le_refl _⟩)))
  replace HD := Lib.hid (HD.out.set_next hg hp)
  rw [HS.out]
  clear hp hg
  have HL := Lib.hid (lose_any HD.out)
  go_wp2_with fail
  refine HL.out.mono ?_
  rintro e w6 ⟨rfl, hd, ht⟩
  replace HD := Lib.hid hd
  replace HT := Lib.hid (HT.out.trans ht)
  clear hd ht
  go_wp2
  go_ret
  exact ⟨rfl, HD.out, HT.out⟩

theorem erase_good (hG : G.Ok) (h : Dev G w P st) (hoff : st.off = false) (u b : Int) (hh : has G u b) (hrt : st.rt (blk G u b) = false) (hk0 : 0 ≤ st.many) (hk1 : st.many < 4611686018427387904) (hs : Plan.says st.plan = 0) :
    Calls Try.prog 29 #[ptr P.g, .int .i64 u, .int .i64 b] w fun e w' => e = .returned (.int .i64 0) ∧ Dev G w' P { st with wr := upd st.wr (blk G u b) (wrap64 (st.wr (blk G u b) + 1)), rd := wipe G u b st.rd, nx := upd st.nx (blk G u b) 0, plan := st.plan.tail, many := st.many + 1 } ∧ Turn P.own P.own w w' := by
  have HO := Lib.hid (Off_any h)
  rw [hoff] at HO
  have HM := Lib.hid (block_ok hG h u b hh)
  have HT3 := Lib.hid (fun w (hd : Dev G w P st) => (hd.three hG hh).2)
  rw [hrt] at HT3
  have H := Lib.hid h
  have HG := Lib.hid hG
  have HH := Lib.hid hh
  have hgp : P.g ≠ P.gp := by have := h.apart.g_p; have := h.apart.lo; omega
  have hbp : P.gb ≠ P.gp := by have := h.apart.b_p; have := h.apart.lo; omega
  have hjl : blk G u b < cnt G := by
    have := (blk_lt hG hh)
    unfold cnt
    omega
  obtain ⟨j, hj⟩ : ∃ j, j = blk G u b := ⟨_, rfl⟩
  rw [← hj] at HM HT3 hjl ⊢
  have HJL := Lib.hid hjl
  have HNEXT := Lib.hid (fun w xs (hd : PlanPkg.At w P.lo P.gp xs st.many) => PlanPkg.Next_any P.lo P.gp xs st.many 0 w hd (by omega) (by omega))
  have HS := Lib.hid hs
  clear h hoff hrt hG hh hjl hj hs
  go_enter Try.func29, Try.ntmps29
  go_wp2_with fail
  refine HO.out.mono ?_
  rintro e w2 ⟨rfl, hw⟩
  subst w2
  go_wp2_with fail
  refine HM.out.mono ?_
  rintro e w3 ⟨rfl, hb⟩
  have hd := H.out.below hb
  obtain ⟨t1, t2⟩ := HT3.out w3 hd
  have tf := hd.row.frozen (j * 3 + 1)
  have HD := Lib.hid hd
  have HB := Lib.hid hb
  clear hb hd
  go_wp2_with fail
  refine at_wldc ?_
  intro X hX
  have hgr : w3.grownBy X (some P.gb) := by rw [hX]; exact grown_setCell _ _ _
  replace HD : Hid (Dev G X P { st with wr := upd st.wr j (wrap64 (st.wr j + 1)) }) := by
    rw [hX]
    exact HD.out.set_row (j * 3 + 1) _ (fun i _ => bcell_wr st j _ i) rfl rfl rfl rfl rfl
  have HT : Hid (Turn P.own P.own w X) := Lib.hid ((Turn.of_below P.own HB.out).trans (Turn.of_grown hgr P.own_b))
  clear hX hgr HB t1 t2 tf
  refine (forget_any HG.out HD.out u b HH.out).mono ?_
  rintro e w4 ⟨rfl, hd, ht⟩
  replace HD := Lib.hid hd
  replace HT := Lib.hid (HT.out.trans ht)
  have c4 : w4.cell? ⟨P.g, 4, none⟩ = some (.int .i64 G.p) := hd.cells.2.2.2.2.1
  have c6 : (w4.setCell ⟨P.gb, j * 3, none⟩ (.int .i64 G.p)).cell? ⟨P.g, 6, none⟩ = some (ptr P.gp) := ((grown_setCell w4 ⟨P.gb, j * 3, none⟩ (.int .i64 G.p)).cell hd.cells.2.2.2.2.2.2.1 (fun e => hd.apart.g_b (by injection e)))
  have t0 : w4.cell? ⟨P.gb, j * 3, none⟩ = some (bcell _ (j * 3)) := hd.row.cell (by have := HJL.out; omega)
  rw [bcell_0] at t0
  have tf := hd.row.frozen (j * 3)
  clear hd ht
  go_wp2_with fail
  refine at_wldc ?_
  intro X hX
  have hgr : w4.grownBy X (some P.gb) := by rw [hX]; exact grown_setCell _ _ _
  replace HD : Hid (Dev G X P { st with wr := upd st.wr j (wrap64 (st.wr j + 1)), rd := wipe G u b st.rd, nx := upd st.nx j G.p }) := by
    rw [hX]
    exact HD.out.set_row (j * 3) _ (fun i _ => bcell_nx _ j _ i) rfl rfl rfl rfl rfl
  replace HT : Hid (Turn P.own P.own w X) := Lib.hid (HT.out.trans (Turn.of_grown hgr P.own_b))
  clear hX hgr t0 tf c4 c6
  refine (HNEXT.out X st.plan HD.out.plan).mono ?_
  rintro e w5 ⟨rfl, hp, hg⟩
  replace HT := Lib.hid (HT.out.trans (Turn.of_grown hg (P.own_p ⟨HD.out.apart.lo, Nat.le_refl _⟩)))
  replace HD := Lib.hid (HD.out.set_next hg hp)
  rw [HS.out]
  clear hp hg
  have t0 : w5.cell? ⟨P.gb, j * 3, none⟩ = some (bcell _ (j * 3)) := HD.out.row.cell (by have := HJL.out; omega)
  rw [bcell_0] at t0
  have tf := HD.out.row.frozen (j * 3)
  go_wp2
  go_ret
  refine ⟨rfl, ?_, HT.out.trans (Turn.of_grown (grown_setCell _ _ _) P.own_b)⟩
  rw [← upd_upd st.nx j G.p 0]
  exact HD.out.set_row (j * 3) _ (fun i _ => bcell_nx _ j _ i) rfl rfl rfl rfl rfl

theorem Erase_any (hG : G.Ok) (h : Dev G w P st) (u b : Int) (hk0 : 0 ≤ st.many) (hk1 : st.many < 4611686018427387904) :
    Calls Try.prog 29 #[ptr P.g, .int .i64 u, .int .i64 b] w fun e w' => e = .returned (.int .i64 (st.erase G u b).1) ∧ Dev G w' P (st.erase G u b).2 ∧ Turn P.own P.own w w' := by
  unfold St.erase
  by_cases hoff : st.off = true
  · rw [if_pos hoff]
    refine (erase_off h hoff u b).mono ?_
    rintro e w2 ⟨rfl, rfl⟩
    exact ⟨rfl, h, Turn.refl _ _⟩
  · rw [if_neg hoff]
    replace hoff : st.off = false := by simpa using hoff
    by_cases hh : has G u b
    · rw [if_neg (fun h => h hh)]
      by_cases hrt : st.rt (blk G u b) = true
      · rw [if_pos hrt]
        exact erase_bad hG h hoff u b hh hrt
      · rw [if_neg hrt]
        replace hrt : st.rt (blk G u b) = false := by simpa using hrt
        have hsb := Plan.says_bd st.plan
        by_cases h1 : Plan.says st.plan = 1
        · rw [if_pos h1]
          exact erase_fail hG h hoff u b hh hrt hk0 hk1 h1
        · rw [if_neg h1]
          by_cases h2 : Plan.says st.plan = 2
          · rw [if_pos h2]
            exact erase_cut hG h hoff u b hh hrt hk0 hk1 h2
          · rw [if_neg h2]
            exact erase_good hG h hoff u b hh hrt hk0 hk1 (by omega)
    · rw [if_pos hh]
      exact erase_no hG h hoff u b hh
end

end Go.Proofs.Ytlmdlhfdacmcnaa.NandPkg
