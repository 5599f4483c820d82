/-
  What the document's answer for layer 8 does: Erase.
-/
import Derived.Test.YtlmdlhfdacmcnaaNandRefL
namespace Go.Proofs.Ytlmdlhfdacmcnaa.NandRef
open Go.RowKit Nand NandPkg
set_option maxRecDepth 4000

/-- The kinds, with the log's new block. -/
def kinds (P : Pl) (v : Value) (b : Nat) : Nat := if v.ownBlock = some b then 6 else P.K b

theorem kinds_own {P : Pl} {v : Value} {w : World} (hl : ∀ b, P.lv.ownBlock = some b → P.K b = 6) (hlt : ∀ b, P.own b → b < w.heap.size) (hv : ∀ b, v.ownBlock = some b → P.lv.ownBlock = some b ∨ w.heap.size ≤ b) {b : Nat} (hb : P.own b) : kinds P v b = P.K b := by
  unfold kinds
  split
  · rename_i h
    rcases hv b h with h2 | h2
    · exact (hl b h2).symm
    · have := hlt b hb
      omega
  · rfl

theorem at_q {F : Exit → Act → World → Prop} {e : Exit} {a : Act} {W : World} (h : ∀ X, X = W → F e a X) : F e a W := h W rfl

section
variable {G : Shape} {w : World} {P : Pl} {st : St}

theorem erase_off (h : Ref G w P st) (hoff : st.off = true) (u b : Int) :
    Calls Try.prog 46 #[ptr P.g, .int .i64 u, .int .i64 b] w fun e w' => e = .returned (.int .i64 5) ∧ w' = w := by
  have hc := h.cells.2.2.2.2.2.2.1
  rw [hoff] at hc
  clear h hoff
  go_enter Try.func46, Try.ntmps46
  go_wp2
  go_ret
  exact ⟨rfl, rfl⟩

theorem erase_no (hG : G.Ok) (h : Ref G w P st) (hoff : st.off = false) (u b : Int) (hh : ¬ has G u b) :
    Calls Try.prog 46 #[ptr P.g, .int .i64 u, .int .i64 b] w fun e w' => e = .returned (.int .i64 1) ∧ Ref G w' P st.refused ∧ Turn P.own P.own w w' := by
  have hc := h.cells.2.2.2.2.2.2.1
  rw [hoff] at hc
  have HC := Lib.hid (at_no hG h u b hh)
  have H := Lib.hid h
  clear h hh hG hoff
  go_enter Try.func46, Try.ntmps46
  go_wp2_with fail
  refine HC.out.mono ?_
  rintro e w2 ⟨rfl, hb⟩
  have HW := Lib.hid (wrong_any (H.out.below hb) 1)
  have HB := Lib.hid hb
  clear hb
  go_wp2_with fail
  refine HW.out.mono ?_
  rintro e w3 ⟨rfl, hd, ht⟩
  have HD := Lib.hid hd
  have HT := Lib.hid ((Turn.of_below P.own HB.out).trans ht)
  clear hd ht
  go_wp2
  go_ret
  exact ⟨rfl, HD.out, HT.out⟩

theorem erase_bad (hG : G.Ok) (h : Ref G w P st) (hoff : st.off = false) (u b : Int) (hh : has G u b) (hrt : st.rt (blk G u b) = true) :
    Calls Try.prog 46 #[ptr P.g, .int .i64 u, .int .i64 b] w fun e w' => e = .returned (.int .i64 10) ∧ Ref G w' P st.refused ∧ Turn P.own P.own w w' := by
  have hc := h.cells.2.2.2.2.2.2.1
  rw [hoff] at hc
  have HC := Lib.hid (at_ok hG h u b hh)
  have hj := blk_cnt hG hh
  have HR := Lib.hid (fun w (hd : Ref G w P st) => hd.rr.cell hj)
  rw [hrt] at HR
  have hji : (blk G u b : Int) < (cnt G : Int) := by omega
  have H := Lib.hid h
  generalize blk G u b = j at HC HR hji
  clear h hj hh hG hoff hrt
  go_enter Try.func46, Try.ntmps46
  go_wp2_with fail
  refine HC.out.mono ?_
  rintro e w2 ⟨rfl, hb⟩
  have hd := H.out.below hb
  have c9 := hd.cells.2.2.2.2.2.1
  have hr := HR.out w2 hd
  have HW := Lib.hid (wrong_any hd 10)
  have HB := Lib.hid hb
  clear hb hd
  go_wp2_with fail
  refine HW.out.mono ?_
  rintro e w3 ⟨rfl, hd, ht⟩
  have HD := Lib.hid hd
  have HT := Lib.hid ((Turn.of_below P.own HB.out).trans ht)
  clear hd ht
  go_wp2
  go_ret
  exact ⟨rfl, HD.out, HT.out⟩

theorem erase_fail (hG : G.Ok) (h : Ref G w P st) (hoff : st.off = false) (u b : Int) (hh : has G u b) (hrt : st.rt (blk G u b) = false) (hJ : P.J ≤ 100000) (hk1 : st.many < 4611686018427387904) (hs : Plan.says st.plan = 1) :
    Calls Try.prog 46 #[ptr P.g, .int .i64 u, .int .i64 b] w fun e w' => e = .returned (.int .i64 9) ∧ ∃ P', P'.g = P.g ∧ Ref G w' P' { st with wr := upd st.wr (blk G u b) (wrap64 (st.wr (blk G u b) + 1)), rd := wipe G u b st.rd, nx := upd st.nx (blk G u b) G.p, plan := st.plan.tail, many := st.many + 1 } ∧ Turn P.own P'.own w w' ∧ P'.J ≤ P.J + 1 := by
  have hc := h.cells.2.2.2.2.2.2.1
  rw [hoff] at hc
  have HC := Lib.hid (at_ok hG h u b hh)
  have hj := blk_cnt hG hh
  have HR := Lib.hid (fun w (hd : Ref G w P st) => hd.rr.cell hj)
  rw [hrt] at HR
  have HW := Lib.hid (fun w (hd : Ref G w P st) => hd.rw.cell hj)
  have hji : (blk G u b : Int) < (cnt G : Int) := by omega
  have H := Lib.hid h
  have HG := Lib.hid hG
  have HH := Lib.hid hh
  have HS := Lib.hid hs
  have HOFF := Lib.hid hoff
  obtain ⟨j, hjj⟩ : ∃ j, j = blk G u b := ⟨_, rfl⟩
  rw [← hjj] at HC HR HW hji hj ⊢
  have HJL := Lib.hid hj
  clear h hj hh hG hoff hrt hs hjj
  go_enter Try.func46, Try.ntmps46
  go_wp2_with fail
  refine HC.out.mono ?_
  rintro e w2 ⟨rfl, hb⟩
  have hd := H.out.below hb
  have c9 := hd.cells.2.2.2.2.2.1
  have c8 := hd.cells.2.2.2.2.1
  have hr := HR.out w2 hd
  have hw := HW.out w2 hd
  have hwf := hd.rw.frozen j
  have HB := Lib.hid hb
  have HD := Lib.hid hd
  clear hb hd
  go_upto_region 9 with fail
  refine at_wld ?_
  intro X hX
  have hgr : w2.grownBy X (some P.gw) := by rw [hX]; exact grown_setCell _ _ _
  replace HD : Hid (Ref G X P { st with wr := upd st.wr j (wrap64 (st.wr j + 1)) }) := by
    rw [hX]
    exact HD.out.set_wr j _
  have HT : Hid (Turn P.own P.own w X) := Lib.hid ((Turn.of_below P.own HB.out).trans (Turn.of_grown hgr (own_of P H.out.apart.w (by omega))))
  clear hX hgr HB c9 c8 hr hw hwf
  obtain ⟨evs, hlog, htell, hlen⟩ := HD.out.log
  obtain ⟨Al, cl, hlv⟩ := hlog.form
  have c6 := HD.out.cells.2.2.1
  have f6 := HD.out.free 6
  rw [hlv] at c6 hlog
  generalize hnl : evs.length = nl at c6 hlog hlv
  have HLOG := Lib.hid hlog
  have HTELL := Lib.hid htell
  have HLV := Lib.hid hlv
  have hel : evs.length ≤ 1000000000 := by omega
  have HLEN := Lib.hid hlen
  have hDD : ∀ b, P.K b = 7 → b < X.heap.size ∧ (Value.slice Al nl cl).ownBlock ≠ some b := fun b hb => ⟨HD.out.lt b (own_of P hb (by omega)), fun e => by have := HD.out.apart.l b (by rw [hlv]; exact e); omega⟩
  have HDD := Lib.hid hDD
  clear hlog htell hlv hlen hDD hnl
  go_wp2_with (at_builtin; refine wpList_append_event X rfl _ _ rfl (fun b => P.K b = 7) (.slice Al nl cl) evs rfl HLOG.out ⟨u, b, -1, [], []⟩ none 0 0 none 0 0 rfl (by omega) (by omega) ⟨rfl, fun i hi => absurd hi (by simp)⟩ ⟨rfl, fun i hi => absurd hi (by simp)⟩ (by omega) HDD.out hel ?_)
  intro v1 w3 hl1 hg1 hp1
  obtain ⟨A1, d1, hv1⟩ := hl1.form
  subst hv1
  generalize (evs ++ [(⟨u, b, -1, [], []⟩ : Ev)]).length = n1 at *
  have c6' : w3.cell? ⟨P.g, 6, none⟩ = some (.slice Al nl cl) := hg1.cell c6 (fun e => by have h6 := HD.out.apart.l P.g (by rw [HLV.out]; exact e.symm); have := HD.out.apart.g; omega)
  have f6' : w3.frozen? ⟨P.g, 6, none⟩ = false := by
    have hh : w3.heap[P.g]? = X.heap[P.g]? := hg1.block P.g (HD.out.lt _ (own_of P HD.out.apart.g (by omega))) (fun e => by have h6 := HD.out.apart.l P.g (by rw [HLV.out]; exact e.symm); have := HD.out.apart.g; omega)
    rw [World.frozen?_of_block (w := X) hh]
    exact f6
  have hown := fun b (hb : P.own b) => kinds_own (v := .slice A1 n1 d1) HD.out.apart.l HD.out.lt (fun b hb => by rw [HLV.out]; exact hp1 b hb) hb
  have hlk : Log w3 (fun b => kinds P (.slice A1 n1 d1) b = 7) (.slice A1 n1 d1) (evs ++ [⟨u, b, -1, [], []⟩]) := hl1.keep (fun _ _ => rfl) (fun b (hb : P.K b = 7) => (hown b (own_of P hb (by omega))).trans hb) (fun _ _ => rfl)
  have hnk : ∀ b, kinds P (.slice A1 n1 d1) b ≠ 0 → b < w3.heap.size := fun b hb => by
    unfold kinds at hb
    split at hb
    · rename_i h
      exact hl1.lt b h
    · exact Nat.lt_of_lt_of_le (HD.out.lt b hb) hg1.size
  have hv6 : ∀ b, (Value.slice A1 n1 d1).ownBlock = some b → kinds P (.slice A1 n1 d1) b = 6 := fun b hb => by unfold kinds; rw [if_pos hb]
  have HD2 := Lib.hid (HD.out.set_log (by rw [HLV.out]; exact hg1) hown hnk hlk (HTELL.out.wiped HG.out HH.out) hv6 (J' := P.J + 1) (by rw [List.length_append]; have := HLEN.out; simp; omega))
  have HT2 : Hid (Turn P.own (Pl.own { P with lv := .slice A1 n1 d1, K := kinds P (.slice A1 n1 d1), J := P.J + 1 }) w (w3.setCell ⟨P.g, 6, none⟩ (.slice A1 n1 d1))) := by
    refine Lib.hid (HT.out.trans ⟨hg1.os, hg1.tape, hg1.output, Nat.le_trans hg1.size (grown_setCell _ _ _).size, fun b hb hn => ?_, fun b hb => ?_⟩)
    · rw [(grown_setCell w3 ⟨P.g, 6, none⟩ (.slice A1 n1 d1)).block b (Nat.lt_of_lt_of_le hb hg1.size) (fun e => hn (by injection e with e; rw [e]; exact own_of P HD.out.apart.g (by omega)))]
      exact hg1.block b hb (fun e => hn (own_of P (HD.out.apart.l b (by rw [HLV.out]; exact e.symm)) (by omega)))
    · by_cases ho : P.own b
      · exact Or.inl ho
      · right
        have hb : kinds P (.slice A1 n1 d1) b ≠ 0 := hb
        unfold kinds at hb
        split at hb
        · rename_i h
          rcases hp1 b h with h2 | h2
          · exact absurd (own_of P (HD.out.apart.l b (by rw [HLV.out]; exact h2)) (by omega)) ho
          · exact h2
        · exact absurd hb ho
  obtain ⟨P2, hP2⟩ : ∃ P2 : Pl, P2 = { P with lv := .slice A1 n1 d1, K := kinds P (.slice A1 n1 d1), J := P.J + 1 } := ⟨_, rfl⟩
  have hPg : P2.g = P.g := by rw [hP2]
  have hPj : P2.J = P.J + 1 := by rw [hP2]
  rw [← hP2] at HD2 HT2
  have HPG := Lib.hid hPg
  have HPJ := Lib.hid hPj
  clear hP2 hPg hPj hown hlk hnk hv6 hl1 hg1 hp1 HLOG HTELL HLEN HDD c6 f6
  have c5 : (w3.setCell ⟨P.g, 6, none⟩ (.slice A1 n1 d1)).cell? ⟨P.g, 5, none⟩ = some (ptr P2.gp) := by
    have := HD2.out.cells.2.1
    rw [HPG.out] at this
    exact this
  go_wp2_with fail
  refine at_wldc ?_
  intro Y hY
  rw [← hY] at HD2 HT2
  clear hY c5 c6' f6' HD HT
  obtain ⟨xs, hpl, hm0, hdrop⟩ := HD2.out.plan
  replace hdrop : xs.drop st.many.toNat = st.plan := hdrop
  replace hm0 : 0 ≤ st.many := hm0
  obtain ⟨m, hm⟩ : ∃ m : Nat, st.many = (m : Int) := ⟨st.many.toNat, by omega⟩
  replace hpl : PlanPkg.RefAt Y P2.lo P2.gp xs (m : Int) := by rw [← hm]; exact hpl
  rw [hm, Int.toNat_natCast] at hdrop
  refine (PlanPkg.refNext_any P2.lo P2.gp xs m 0 Y hpl (by omega)).mono ?_
  rintro e w5 ⟨rfl, hp, hg⟩
  rw [hdrop, HS.out]
  have hmt : xs.drop ((m : Int) + 1).toNat = st.plan.tail := by
    rw [← hdrop, show ((m : Int) + 1).toNat = m + 1 by omega, ← List.drop_drop, List.drop_one]
  have HD3 := Lib.hid (HD2.out.set_next hg hp (by omega) hmt)
  have HT3 := Lib.hid (HT2.out.trans (Turn.of_grown hg (own_of P2 (HD2.out.apart.p _ HD2.out.apart.lo (Nat.le_refl _)) (by omega))))
  have HMM : Hid ((m : Int) + 1 = st.many + 1) := by rw [hm]; exact Lib.hid rfl
  have e7 := HD3.out.cells.2.2.2.1
  have e3 := HD3.out.cells.1.2.2.2.1
  have en := HD3.out.rn.cell HJL.out
  have ef := HD3.out.rn.frozen j
  rw [HPG.out] at e7 e3
  have hne : P2.g ≠ P2.gn := fun e => by have h1 := HD3.out.apart.g; have h2 := HD3.out.apart.n; rw [e] at h1; omega
  rw [HPG.out] at hne
  clear hpl hdrop hp hg hmt HD2 HT2 hm hm0
  go_wp2_with fail
  go_region_held3 (fun w' => w'.cell? ⟨P.g, 7, none⟩ = some (.slice (some ⟨P2.gn, 0, none⟩) (cnt G) (cnt G)) ∧ w'.cell? ⟨P.g, 3, none⟩ = some (.int .i64 G.p))
    (first | exact ⟨e7, e3⟩ | exact held2_grown (by assumption) (grown_setCell _ _ _) hne hne | go_keep)
    (first | fail)
  rename_i hHeld
  clear hHeld
  have HD4 : Hid (Ref G (w5.drew.setCell ⟨P2.gn, j, none⟩ (.int .i64 G.p)) P2 { st with wr := upd st.wr j (wrap64 (st.wr j + 1)), rd := wipe G u b st.rd, nx := upd st.nx j G.p, plan := st.plan.tail, many := st.many + 1 }) := by
    rw [← HMM.out]
    exact Lib.hid (Ref.set_nx (HD3.out.keep (w' := w5.drew) (fun _ _ => rfl) (Nat.le_refl _)) j G.p)
  have HT4 : Hid (Turn P.own P2.own w (w5.drew.setCell ⟨P2.gn, j, none⟩ (.int .i64 G.p))) := Lib.hid ((HT3.out.trans (Turn.of_grown (w' := w5.drew.setCell ⟨P2.gn, j, none⟩ (.int .i64 G.p)) (r := P2.gn) ((fun (h : w5.drew.grownBy (w5.drew.setCell ⟨P2.gn, j, none⟩ (.int .i64 G.p)) (some P2.gn)) => ⟨h.os, h.tape, h.output, h.size, h.block⟩) (grown_setCell _ _ _)) (own_of P2 HD3.out.apart.n (by omega)))))
  clear HD3 HT3 e7 e3 en ef
  refine at_q ?_
  intro Z hZ
  replace hZ : Z = w5.drew.setCell ⟨P2.gn, j, none⟩ (.int .i64 G.p) := hZ
  rw [← hZ] at HD4 HT4
  clear hZ
  go_wp2
  go_ret
  exact ⟨rfl, P2, HPG.out, HD4.out, HT4.out, by rw [HPJ.out]; exact Nat.le_refl _⟩

theorem erase_cut (hG : G.Ok) (h : Ref G w P st) (hoff : st.off = false) (u b : Int) (hh : has G u b) (hrt : st.rt (blk G u b) = false) (hJ : P.J ≤ 100000) (hk1 : st.many < 4611686018427387904) (hs : Plan.says st.plan = 2) :
    Calls Try.prog 46 #[ptr P.g, .int .i64 u, .int .i64 b] w fun e w' => e = .returned (.int .i64 5) ∧ ∃ P', P'.g = P.g ∧ Ref G w' P' { st with wr := upd st.wr (blk G u b) (wrap64 (st.wr (blk G u b) + 1)), rd := wipe G u b st.rd, nx := upd st.nx (blk G u b) G.p, plan := st.plan.tail, many := st.many + 1, off := true } ∧ Turn P.own P'.own w w' ∧ P'.J ≤ P.J + 1 := by
  have hc := h.cells.2.2.2.2.2.2.1
  rw [hoff] at hc
  have HC := Lib.hid (at_ok hG h u b hh)
  have hj := blk_cnt hG hh
  have HR := Lib.hid (fun w (hd : Ref G w P st) => hd.rr.cell hj)
  rw [hrt] at HR
  have HW := Lib.hid (fun w (hd : Ref G w P st) => hd.rw.cell hj)
  have hji : (blk G u b : Int) < (cnt G : Int) := by omega
  have H := Lib.hid h
  have HG := Lib.hid hG
  have HH := Lib.hid hh
  have HS := Lib.hid hs
  have HOFF := Lib.hid hoff
  obtain ⟨j, hjj⟩ : ∃ j, j = blk G u b := ⟨_, rfl⟩
  rw [← hjj] at HC HR HW hji hj ⊢
  have HJL := Lib.hid hj
  clear h hj hh hG hoff hrt hs hjj
  go_enter Try.func46, Try.ntmps46
  go_wp2_with fail
  refine HC.out.mono ?_
  rintro e w2 ⟨rfl, hb⟩
  have hd := H.out.below hb
  have c9 := hd.cells.2.2.2.2.2.1
  have c8 := hd.cells.2.2.2.2.1
  have hr := HR.out w2 hd
  have hw := HW.out w2 hd
  have hwf := hd.rw.frozen j
  have HB := Lib.hid hb
  have HD := Lib.hid hd
  clear hb hd
  go_upto_region 9 with fail
  refine at_wld ?_
  intro X hX
  have hgr : w2.grownBy X (some P.gw) := by rw [hX]; exact grown_setCell _ _ _
  replace HD : Hid (Ref G X P { st with wr := upd st.wr j (wrap64 (st.wr j + 1)) }) := by
    rw [hX]
    exact HD.out.set_wr j _
  have HT : Hid (Turn P.own P.own w X) := Lib.hid ((Turn.of_below P.own HB.out).trans (Turn.of_grown hgr (own_of P H.out.apart.w (by omega))))
  clear hX hgr HB c9 c8 hr hw hwf
  obtain ⟨evs, hlog, htell, hlen⟩ := HD.out.log
  obtain ⟨Al, cl, hlv⟩ := hlog.form
  have c6 := HD.out.cells.2.2.1
  have f6 := HD.out.free 6
  rw [hlv] at c6 hlog
  generalize hnl : evs.length = nl at c6 hlog hlv
  have HLOG := Lib.hid hlog
  have HTELL := Lib.hid htell
  have HLV := Lib.hid hlv
  have hel : evs.length ≤ 1000000000 := by omega
  have HLEN := Lib.hid hlen
  have hDD : ∀ b, P.K b = 7 → b < X.heap.size ∧ (Value.slice Al nl cl).ownBlock ≠ some b := fun b hb => ⟨HD.out.lt b (own_of P hb (by omega)), fun e => by have := HD.out.apart.l b (by rw [hlv]; exact e); omega⟩
  have HDD := Lib.hid hDD
  clear hlog htell hlv hlen hDD hnl
  go_wp2_with (at_builtin; refine wpList_append_event X rfl _ _ rfl (fun b => P.K b = 7) (.slice Al nl cl) evs rfl HLOG.out ⟨u, b, -1, [], []⟩ none 0 0 none 0 0 rfl (by omega) (by omega) ⟨rfl, fun i hi => absurd hi (by simp)⟩ ⟨rfl, fun i hi => absurd hi (by simp)⟩ (by omega) HDD.out hel ?_)
  intro v1 w3 hl1 hg1 hp1
  obtain ⟨A1, d1, hv1⟩ := hl1.form
  subst hv1
  generalize (evs ++ [(⟨u, b, -1, [], []⟩ : Ev)]).length = n1 at *
  have c6' : w3.cell? ⟨P.g, 6, none⟩ = some (.slice Al nl cl) := hg1.cell c6 (fun e => by have h6 := HD.out.apart.l P.g (by rw [HLV.out]; exact e.symm); have := HD.out.apart.g; omega)
  have f6' : w3.frozen? ⟨P.g, 6, none⟩ = false := by
    have hh : w3.heap[P.g]? = X.heap[P.g]? := hg1.block P.g (HD.out.lt _ (own_of P HD.out.apart.g (by omega))) (fun e => by have h6 := HD.out.apart.l P.g (by rw [HLV.out]; exact e.symm); have := HD.out.apart.g; omega)
    rw [World.frozen?_of_block (w := X) hh]
    exact f6
  have hown := fun b (hb : P.own b) => kinds_own (v := .slice A1 n1 d1) HD.out.apart.l HD.out.lt (fun b hb => by rw [HLV.out]; exact hp1 b hb) hb
  have hlk : Log w3 (fun b => kinds P (.slice A1 n1 d1) b = 7) (.slice A1 n1 d1) (evs ++ [⟨u, b, -1, [], []⟩]) := hl1.keep (fun _ _ => rfl) (fun b (hb : P.K b = 7) => (hown b (own_of P hb (by omega))).trans hb) (fun _ _ => rfl)
  have hnk : ∀ b, kinds P (.slice A1 n1 d1) b ≠ 0 → b < w3.heap.size := fun b hb => by
    unfold kinds at hb
    split at hb
    · rename_i h
      exact hl1.lt b h
    · exact Nat.lt_of_lt_of_le (HD.out.lt b hb) hg1.size
  have hv6 : ∀ b, (Value.slice A1 n1 d1).ownBlock = some b → kinds P (.slice A1 n1 d1) b = 6 := fun b hb => by unfold kinds; rw [if_pos hb]
  have HD2 := Lib.hid (HD.out.set_log (by rw [HLV.out]; exact hg1) hown hnk hlk (HTELL.out.wiped HG.out HH.out) hv6 (J' := P.J + 1) (by rw [List.length_append]; have := HLEN.out; simp; omega))
  have HT2 : Hid (Turn P.own (Pl.own { P with lv := .slice A1 n1 d1, K := kinds P (.slice A1 n1 d1), J := P.J + 1 }) w (w3.setCell ⟨P.g, 6, none⟩ (.slice A1 n1 d1))) := by
    refine Lib.hid (HT.out.trans ⟨hg1.os, hg1.tape, hg1.output, Nat.le_trans hg1.size (grown_setCell _ _ _).size, fun b hb hn => ?_, fun b hb => ?_⟩)
    · rw [(grown_setCell w3 ⟨P.g, 6, none⟩ (.slice A1 n1 d1)).block b (Nat.lt_of_lt_of_le hb hg1.size) (fun e => hn (by injection e with e; rw [e]; exact own_of P HD.out.apart.g (by omega)))]
      exact hg1.block b hb (fun e => hn (own_of P (HD.out.apart.l b (by rw [HLV.out]; exact e.symm)) (by omega)))
    · by_cases ho : P.own b
      · exact Or.inl ho
      · right
        have hb : kinds P (.slice A1 n1 d1) b ≠ 0 := hb
        unfold kinds at hb
        split at hb
        · rename_i h
          rcases hp1 b h with h2 | h2
          · exact absurd (own_of P (HD.out.apart.l b (by rw [HLV.out]; exact h2)) (by omega)) ho
          · exact h2
        · exact absurd hb ho
  obtain ⟨P2, hP2⟩ : ∃ P2 : Pl, P2 = { P with lv := .slice A1 n1 d1, K := kinds P (.slice A1 n1 d1), J := P.J + 1 } := ⟨_, rfl⟩
  have hPg : P2.g = P.g := by rw [hP2]
  have hPj : P2.J = P.J + 1 := by rw [hP2]
  rw [← hP2] at HD2 HT2
  have HPG := Lib.hid hPg
  have HPJ := Lib.hid hPj
  clear hP2 hPg hPj hown hlk hnk hv6 hl1 hg1 hp1 HLOG HTELL HLEN HDD c6 f6
  have c5 : (w3.setCell ⟨P.g, 6, none⟩ (.slice A1 n1 d1)).cell? ⟨P.g, 5, none⟩ = some (ptr P2.gp) := by
    have := HD2.out.cells.2.1
    rw [HPG.out] at this
    exact this
  go_wp2_with fail
  refine at_wldc ?_
  intro Y hY
  rw [← hY] at HD2 HT2
  clear hY c5 c6' f6' HD HT
  obtain ⟨xs, hpl, hm0, hdrop⟩ := HD2.out.plan
  replace hdrop : xs.drop st.many.toNat = st.plan := hdrop
  replace hm0 : 0 ≤ st.many := hm0
  obtain ⟨m, hm⟩ : ∃ m : Nat, st.many = (m : Int) := ⟨st.many.toNat, by omega⟩
  replace hpl : PlanPkg.RefAt Y P2.lo P2.gp xs (m : Int) := by rw [← hm]; exact hpl
  rw [hm, Int.toNat_natCast] at hdrop
  refine (PlanPkg.refNext_any P2.lo P2.gp xs m 0 Y hpl (by omega)).mono ?_
  rintro e w5 ⟨rfl, hp, hg⟩
  rw [hdrop, HS.out]
  have hmt : xs.drop ((m : Int) + 1).toNat = st.plan.tail := by
    rw [← hdrop, show ((m : Int) + 1).toNat = m + 1 by omega, ← List.drop_drop, List.drop_one]
  have HD3 := Lib.hid (HD2.out.set_next hg hp (by omega) hmt)
  have HT3 := Lib.hid (HT2.out.trans (Turn.of_grown hg (own_of P2 (HD2.out.apart.p _ HD2.out.apart.lo (Nat.le_refl _)) (by omega))))
  have HMM : Hid ((m : Int) + 1 = st.many + 1) := by rw [hm]; exact Lib.hid rfl
  have e7 := HD3.out.cells.2.2.2.1
  have e3 := HD3.out.cells.1.2.2.2.1
  have en := HD3.out.rn.cell HJL.out
  have ef := HD3.out.rn.frozen j
  rw [HPG.out] at e7 e3
  have hne : P2.g ≠ P2.gn := fun e => by have h1 := HD3.out.apart.g; have h2 := HD3.out.apart.n; rw [e] at h1; omega
  rw [HPG.out] at hne
  clear hpl hdrop hp hg hmt HD2 HT2 hm hm0
  go_wp2_with fail
  go_region_held3 (fun w' => w'.cell? ⟨P.g, 7, none⟩ = some (.slice (some ⟨P2.gn, 0, none⟩) (cnt G) (cnt G)) ∧ w'.cell? ⟨P.g, 3, none⟩ = some (.int .i64 G.p))
    (first | exact ⟨e7, e3⟩ | exact held2_grown (by assumption) (grown_setCell _ _ _) hne hne | go_keep)
    (first | fail)
  rename_i hHeld
  clear hHeld
  have HD4 : Hid (Ref G (w5.drew.setCell ⟨P2.gn, j, none⟩ (.int .i64 G.p)) P2 { st with wr := upd st.wr j (wrap64 (st.wr j + 1)), rd := wipe G u b st.rd, nx := upd st.nx j G.p, plan := st.plan.tail, many := st.many + 1 }) := by
    rw [← HMM.out]
    exact Lib.hid (Ref.set_nx (HD3.out.keep (w' := w5.drew) (fun _ _ => rfl) (Nat.le_refl _)) j G.p)
  have HT4 : Hid (Turn P.own P2.own w (w5.drew.setCell ⟨P2.gn, j, none⟩ (.int .i64 G.p))) := Lib.hid ((HT3.out.trans (Turn.of_grown (w' := w5.drew.setCell ⟨P2.gn, j, none⟩ (.int .i64 G.p)) (r := P2.gn) ((fun (h : w5.drew.grownBy (w5.drew.setCell ⟨P2.gn, j, none⟩ (.int .i64 G.p)) (some P2.gn)) => ⟨h.os, h.tape, h.output, h.size, h.block⟩) (grown_setCell _ _ _)) (own_of P2 HD3.out.apart.n (by omega)))))
  clear HD3 HT3 e7 e3 en ef
  refine at_q ?_
  intro Z hZ
  replace hZ : Z = w5.drew.setCell ⟨P2.gn, j, none⟩ (.int .i64 G.p) := hZ
  rw [← hZ] at HD4 HT4
  clear hZ
  have c10 := HD4.out.cells.2.2.2.2.2.2.1
  have f10 := HD4.out.free 10
  rw [HPG.out] at c10 f10
  go_wp2
  go_ret
  have hoff2 := HD4.out.set_off true
  rw [HPG.out] at hoff2
  exact ⟨rfl, P2, HPG.out, hoff2, HT4.out.trans (Turn.of_grown (grown_setCell _ _ _) (HPG.out ▸ own_of P2 HD4.out.apart.g (by omega))), by rw [HPJ.out]; exact Nat.le_refl _⟩

theorem erase_good (hG : G.Ok) (h : Ref G w P st) (hoff : st.off = false) (u b : Int) (hh : has G u b) (hrt : st.rt (blk G u b) = false) (hJ : P.J ≤ 100000) (hk1 : st.many < 4611686018427387904) (hs : Plan.says st.plan = 0) :
    Calls Try.prog 46 #[ptr P.g, .int .i64 u, .int .i64 b] w fun e w' => e = .returned (.int .i64 0) ∧ ∃ P', P'.g = P.g ∧ Ref G w' P' { st with wr := upd st.wr (blk G u b) (wrap64 (st.wr (blk G u b) + 1)), rd := wipe G u b st.rd, nx := upd st.nx (blk G u b) 0, plan := st.plan.tail, many := st.many + 1 } ∧ Turn P.own P'.own w w' ∧ P'.J ≤ P.J + 1 := by
  have hc := h.cells.2.2.2.2.2.2.1
  rw [hoff] at hc
  have HC := Lib.hid (at_ok hG h u b hh)
  have hj := blk_cnt hG hh
  have HR := Lib.hid (fun w (hd : Ref G w P st) => hd.rr.cell hj)
  rw [hrt] at HR
  have HW := Lib.hid (fun w (hd : Ref G w P st) => hd.rw.cell hj)
  have hji : (blk G u b : Int) < (cnt G : Int) := by omega
  have H := Lib.hid h
  have HG := Lib.hid hG
  have HH := Lib.hid hh
  have HS := Lib.hid hs
  have HOFF := Lib.hid hoff
  obtain ⟨j, hjj⟩ : ∃ j, j = blk G u b := ⟨_, rfl⟩
  rw [← hjj] at HC HR HW hji hj ⊢
  have HJL := Lib.hid hj
  clear h hj hh hG hoff hrt hs hjj
  go_enter Try.func46, Try.ntmps46
  go_wp2_with fail
  refine HC.out.mono ?_
  rintro e w2 ⟨rfl, hb⟩
  have hd := H.out.below hb
  have c9 := hd.cells.2.2.2.2.2.1
  have c8 := hd.cells.2.2.2.2.1
  have hr := HR.out w2 hd
  have hw := HW.out w2 hd
  have hwf := hd.rw.frozen j
  have HB := Lib.hid hb
  have HD := Lib.hid hd
  clear hb hd
  go_upto_region 9 with fail
  refine at_wld ?_
  intro X hX
  have hgr : w2.grownBy X (some P.gw) := by rw [hX]; exact grown_setCell _ _ _
  replace HD : Hid (Ref G X P { st with wr := upd st.wr j (wrap64 (st.wr j + 1)) }) := by
    rw [hX]
    exact HD.out.set_wr j _
  have HT : Hid (Turn P.own P.own w X) := Lib.hid ((Turn.of_below P.own HB.out).trans (Turn.of_grown hgr (own_of P H.out.apart.w (by omega))))
  clear hX hgr HB c9 c8 hr hw hwf
  obtain ⟨evs, hlog, htell, hlen⟩ := HD.out.log
  obtain ⟨Al, cl, hlv⟩ := hlog.form
  have c6 := HD.out.cells.2.2.1
  have f6 := HD.out.free 6
  rw [hlv] at c6 hlog
  generalize hnl : evs.length = nl at c6 hlog hlv
  have HLOG := Lib.hid hlog
  have HTELL := Lib.hid htell
  have HLV := Lib.hid hlv
  have hel : evs.length ≤ 1000000000 := by omega
  have HLEN := Lib.hid hlen
  have hDD : ∀ b, P.K b = 7 → b < X.heap.size ∧ (Value.slice Al nl cl).ownBlock ≠ some b := fun b hb => ⟨HD.out.lt b (own_of P hb (by omega)), fun e => by have := HD.out.apart.l b (by rw [hlv]; exact e); omega⟩
  have HDD := Lib.hid hDD
  clear hlog htell hlv hlen hDD hnl
  go_wp2_with (at_builtin; refine wpList_append_event X rfl _ _ rfl (fun b => P.K b = 7) (.slice Al nl cl) evs rfl HLOG.out ⟨u, b, -1, [], []⟩ none 0 0 none 0 0 rfl (by omega) (by omega) ⟨rfl, fun i hi => absurd hi (by simp)⟩ ⟨rfl, fun i hi => absurd hi (by simp)⟩ (by omega) HDD.out hel ?_)
  intro v1 w3 hl1 hg1 hp1
  obtain ⟨A1, d1, hv1⟩ := hl1.form
  subst hv1
  generalize (evs ++ [(⟨u, b, -1, [], []⟩ : Ev)]).length = n1 at *
  have c6' : w3.cell? ⟨P.g, 6, none⟩ = some (.slice Al nl cl) := hg1.cell c6 (fun e => by have h6 := HD.out.apart.l P.g (by rw [HLV.out]; exact e.symm); have := HD.out.apart.g; omega)
  have f6' : w3.frozen? ⟨P.g, 6, none⟩ = false := by
    have hh : w3.heap[P.g]? = X.heap[P.g]? := hg1.block P.g (HD.out.lt _ (own_of P HD.out.apart.g (by omega))) (fun e => by have h6 := HD.out.apart.l P.g (by rw [HLV.out]; exact e.symm); have := HD.out.apart.g; omega)
    rw [World.frozen?_of_block (w := X) hh]
    exact f6
  have hown := fun b (hb : P.own b) => kinds_own (v := .slice A1 n1 d1) HD.out.apart.l HD.out.lt (fun b hb => by rw [HLV.out]; exact hp1 b hb) hb
  have hlk : Log w3 (fun b => kinds P (.slice A1 n1 d1) b = 7) (.slice A1 n1 d1) (evs ++ [⟨u, b, -1, [], []⟩]) := hl1.keep (fun _ _ => rfl) (fun b (hb : P.K b = 7) => (hown b (own_of P hb (by omega))).trans hb) (fun _ _ => rfl)
  have hnk : ∀ b, kinds P (.slice A1 n1 d1) b ≠ 0 → b < w3.heap.size := fun b hb => by
    unfold kinds at hb
    split at hb
    · rename_i h
      exact hl1.lt b h
    · exact Nat.lt_of_lt_of_le (HD.out.lt b hb) hg1.size
  have hv6 : ∀ b, (Value.slice A1 n1 d1).ownBlock = some b → kinds P (.slice A1 n1 d1) b = 6 := fun b hb => by unfold kinds; rw [if_pos hb]
  have HD2 := Lib.hid (HD.out.set_log (by rw [HLV.out]; exact hg1) hown hnk hlk (HTELL.out.wiped HG.out HH.out) hv6 (J' := P.J + 1) (by rw [List.length_append]; have := HLEN.out; simp; omega))
  have HT2 : Hid (Turn P.own (Pl.own { P with lv := .slice A1 n1 d1, K := kinds P (.slice A1 n1 d1), J := P.J + 1 }) w (w3.setCell ⟨P.g, 6, none⟩ (.slice A1 n1 d1))) := by
    refine Lib.hid (HT.out.trans ⟨hg1.os, hg1.tape, hg1.output, Nat.le_trans hg1.size (grown_setCell _ _ _).size, fun b hb hn => ?_, fun b hb => ?_⟩)
    · rw [(grown_setCell w3 ⟨P.g, 6, none⟩ (.slice A1 n1 d1)).block b (Nat.lt_of_lt_of_le hb hg1.size) (fun e => hn (by injection e with e; rw [e]; exact own_of P HD.out.apart.g (by omega)))]
      exact hg1.block b hb (fun e => hn (own_of P (HD.out.apart.l b (by rw [HLV.out]; exact e.symm)) (by omega)))
    · by_cases ho : P.own b
      · exact Or.inl ho
      · right
        have hb : kinds P (.slice A1 n1 d1) b ≠ 0 := hb
        unfold kinds at hb
        split at hb
        · rename_i h
          rcases hp1 b h with h2 | h2
          · exact absurd (own_of P (HD.out.apart.l b (by rw [HLV.out]; exact h2)) (by omega)) ho
          · exact h2
        · exact absurd hb ho
  obtain ⟨P2, hP2⟩ : ∃ P2 : Pl, P2 = { P with lv := .slice A1 n1 d1, K := kinds P (.slice A1 n1 d1), J := P.J + 1 } := ⟨_, rfl⟩
  have hPg : P2.g = P.g := by rw [hP2]
  have hPj : P2.J = P.J + 1 := by rw [hP2]
  rw [← hP2] at HD2 HT2
  have HPG := Lib.hid hPg
  have HPJ := Lib.hid hPj
  clear hP2 hPg hPj hown hlk hnk hv6 hl1 hg1 hp1 HLOG HTELL HLEN HDD c6 f6
  have c5 : (w3.setCell ⟨P.g, 6, none⟩ (.slice A1 n1 d1)).cell? ⟨P.g, 5, none⟩ = some (ptr P2.gp) := by
    have := HD2.out.cells.2.1
    rw [HPG.out] at this
    exact this
  go_wp2_with fail
  refine at_wldc ?_
  intro Y hY
  rw [← hY] at HD2 HT2
  clear hY c5 c6' f6' HD HT
  obtain ⟨xs, hpl, hm0, hdrop⟩ := HD2.out.plan
  replace hdrop : xs.drop st.many.toNat = st.plan := hdrop
  replace hm0 : 0 ≤ st.many := hm0
  obtain ⟨m, hm⟩ : ∃ m : Nat, st.many = (m : Int) := ⟨st.many.toNat, by omega⟩
  replace hpl : PlanPkg.RefAt Y P2.lo P2.gp xs (m : Int) := by rw [← hm]; exact hpl
  rw [hm, Int.toNat_natCast] at hdrop
  refine (PlanPkg.refNext_any P2.lo P2.gp xs m 0 Y hpl (by omega)).mono ?_
  rintro e w5 ⟨rfl, hp, hg⟩
  rw [hdrop, HS.out]
  have hmt : xs.drop ((m : Int) + 1).toNat = st.plan.tail := by
    rw [← hdrop, show ((m : Int) + 1).toNat = m + 1 by omega, ← List.drop_drop, List.drop_one]
  have HD3 := Lib.hid (HD2.out.set_next hg hp (by omega) hmt)
  have HT3 := Lib.hid (HT2.out.trans (Turn.of_grown hg (own_of P2 (HD2.out.apart.p _ HD2.out.apart.lo (Nat.le_refl _)) (by omega))))
  have HMM : Hid ((m : Int) + 1 = st.many + 1) := by rw [hm]; exact Lib.hid rfl
  have e7 := HD3.out.cells.2.2.2.1
  have e3 := HD3.out.cells.1.2.2.2.1
  have en := HD3.out.rn.cell HJL.out
  have ef := HD3.out.rn.frozen j
  rw [HPG.out] at e7 e3
  have hne : P2.g ≠ P2.gn := fun e => by have h1 := HD3.out.apart.g; have h2 := HD3.out.apart.n; rw [e] at h1; omega
  rw [HPG.out] at hne
  clear hpl hdrop hp hg hmt HD2 HT2 hm hm0
  go_wp2_with fail
  go_region_held3 (fun w' => w'.cell? ⟨P.g, 7, none⟩ = some (.slice (some ⟨P2.gn, 0, none⟩) (cnt G) (cnt G)) ∧ w'.cell? ⟨P.g, 3, none⟩ = some (.int .i64 G.p))
    (first | exact ⟨e7, e3⟩ | exact held2_grown (by assumption) (grown_setCell _ _ _) hne hne | go_keep)
    (first | fail)
  rename_i hHeld
  clear hHeld
  have HD4 : Hid (Ref G (w5.drew.setCell ⟨P2.gn, j, none⟩ (.int .i64 G.p)) P2 { st with wr := upd st.wr j (wrap64 (st.wr j + 1)), rd := wipe G u b st.rd, nx := upd st.nx j G.p, plan := st.plan.tail, many := st.many + 1 }) := by
    rw [← HMM.out]
    exact Lib.hid (Ref.set_nx (HD3.out.keep (w' := w5.drew) (fun _ _ => rfl) (Nat.le_refl _)) j G.p)
  have HT4 : Hid (Turn P.own P2.own w (w5.drew.setCell ⟨P2.gn, j, none⟩ (.int .i64 G.p))) := Lib.hid ((HT3.out.trans (Turn.of_grown (w' := w5.drew.setCell ⟨P2.gn, j, none⟩ (.int .i64 G.p)) (r := P2.gn) ((fun (h : w5.drew.grownBy (w5.drew.setCell ⟨P2.gn, j, none⟩ (.int .i64 G.p)) (some P2.gn)) => ⟨h.os, h.tape, h.output, h.size, h.block⟩) (grown_setCell _ _ _)) (own_of P2 HD3.out.apart.n (by omega)))))
  clear HD3 HT3 e7 e3 en ef
  refine at_q ?_
  intro Z hZ
  replace hZ : Z = w5.drew.setCell ⟨P2.gn, j, none⟩ (.int .i64 G.p) := hZ
  rw [← hZ] at HD4 HT4
  clear hZ
  have e7 := HD4.out.cells.2.2.2.1
  have en := HD4.out.rn.cell HJL.out
  have ef := HD4.out.rn.frozen j
  rw [HPG.out] at e7
  go_wp2
  go_ret
  refine ⟨rfl, P2, HPG.out, ?_, HT4.out.trans (Turn.of_grown (grown_setCell _ _ _) (own_of P2 HD4.out.apart.n (by omega))), by rw [HPJ.out]; exact Nat.le_refl _⟩
  rw [← upd_upd st.nx j G.p 0]
  exact HD4.out.set_nx j 0

theorem Erase_any (hG : G.Ok) (h : Ref G w P st) (u b : Int) (hJ : P.J ≤ 100000) (hk1 : st.many < 4611686018427387904) :
    Calls Try.prog 46 #[ptr P.g, .int .i64 u, .int .i64 b] w fun e w' => e = .returned (.int .i64 (st.erase G u b).1) ∧ ∃ P', P'.g = P.g ∧ Ref G w' P' (st.erase G u b).2 ∧ Turn P.own P'.own w w' ∧ P'.J ≤ P.J + 1 := by
  unfold St.erase
  by_cases hoff : st.off = true
  · rw [if_pos hoff]
    refine (erase_off h hoff u b).mono ?_
    rintro e w2 ⟨rfl, rfl⟩
    exact ⟨rfl, P, rfl, h, Turn.refl _ _, Nat.le_succ _⟩
  · rw [if_neg hoff]
    replace hoff : st.off = false := by simpa using hoff
    by_cases hh : has G u b
    · rw [if_neg (fun h => h hh)]
      by_cases hrt : st.rt (blk G u b) = true
      · rw [if_pos hrt]
        refine (erase_bad hG h hoff u b hh hrt).mono ?_
        rintro e w2 ⟨rfl, hd, ht⟩
        exact ⟨rfl, P, rfl, hd, ht, Nat.le_succ _⟩
      · rw [if_neg hrt]
        replace hrt : st.rt (blk G u b) = false := by simpa using hrt
        have hsb := Plan.says_bd st.plan
        by_cases h1 : Plan.says st.plan = 1
        · rw [if_pos h1]
          exact erase_fail hG h hoff u b hh hrt hJ hk1 h1
        · rw [if_neg h1]
          by_cases h2 : Plan.says st.plan = 2
          · rw [if_pos h2]
            exact erase_cut hG h hoff u b hh hrt hJ hk1 h2
          · rw [if_neg h2]
            exact erase_good hG h hoff u b hh hrt hJ hk1 (by omega)
    · rw [if_pos hh]
      refine (erase_no hG h hoff u b hh).mono ?_
      rintro e w2 ⟨rfl, hd, ht⟩
      exact ⟨rfl, P, rfl, hd, ht, Nat.le_succ _⟩

end

end Go.Proofs.Ytlmdlhfdacmcnaa.NandRef
