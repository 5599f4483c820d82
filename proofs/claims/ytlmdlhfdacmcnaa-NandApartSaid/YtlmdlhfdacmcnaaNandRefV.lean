/-
  What the document's answer for layer 8 does: Program, of a page that may be programmed: where it fails.
-/
import Derived.Test.YtlmdlhfdacmcnaaNandRefQ
namespace Go.Proofs.Ytlmdlhfdacmcnaa.NandRef
open Go.RowKit Nand NandPkg
set_option maxRecDepth 4000

section
variable {G : Shape} {w : World} {P : Pl} {st : St} {D : Nat → Prop}

set_option maxHeartbeats 3200000 in
theorem prog_fail (hG : G.Ok) (hinv : Inv G st) (h : Ref G w P st) (hoff : st.off = false) (u b g : Int) (A A2 : Option Addr) (n n2 c c2 : Nat) (dat oob : List (List UInt8)) (hca : Came w D A n A2 n2 dat oob) (hD : ∀ b, D b → ¬ P.own b)
    (hm : st.may G u b g dat oob = 0) (hJ : P.J ≤ 100000) (hk1 : st.many < 4611686018427387904) (hs : Plan.says st.plan = 1) (m : Nat) (hmm : m = 0) :
    Calls Try.prog 45 #[ptr P.g, .int .i64 u, .int .i64 b, .int .i64 g, .slice A n c, .slice A2 n2 c2] w fun e w' => e = .returned (.int .i64 8) ∧ ∃ P', P'.g = P.g ∧ Ref G w' P' { st with nx := upd st.nx (blk G u b) (g + 1), plan := st.plan.tail, many := st.many + 1, rd := lay G u b g dat oob st.rd m } ∧ Turn P.own P'.own w w' ∧ P'.J ≤ P.J + 1 := by
  have hc := h.cells.2.2.2.2.2.2.1
  rw [hoff] at hc
  have H := Lib.hid h
  have HCA := Lib.hid hca
  have HDD := Lib.hid hD
  have HINV := Lib.hid hinv
  have HG := Lib.hid hG
  obtain ⟨⟨hh, hg0, hg, hf1, hf2⟩, hrt, hnx⟩ := may_is hm
  have HH := Lib.hid hh
  have HNX := Lib.hid hnx
  have HFIT1 := Lib.hid hf1
  have HFIT2 := Lib.hid hf2
  have HC := Lib.hid (at_ok hG h u b hh)
  have hj := blk_cnt hG hh
  have HR := Lib.hid (fun w (hd : Ref G w P st) => hd.rr.cell hj)
  rw [hrt] at HR
  have HX := Lib.hid (fun w (hd : Ref G w P st) => hd.rn.cell hj)
  have HXF := Lib.hid (fun w (hd : Ref G w P st) => hd.rn.frozen (blk G u b))
  rw [← hnx] at HX
  have hji : (blk G u b : Int) < (cnt G : Int) := by omega
  have d1 : decide (g < 0) = false := by simp; omega
  have d2 : decide (G.p ≤ g) = false := by simp; omega
  have hs4 : G.s ≤ 4 := hG.may.2.2.2.2.2.2.2.2.2
  have hs1 : 1 ≤ G.s := hG.may.2.2.2.2.2.2.2.2.1
  have hp32 : G.p ≤ 32 := hG.may.2.2.2.2.2.2.2.1
  have hn : (n : Int) = G.s := by rw [← hca.dat.1]; exact hf1.1
  have hn2 : (n2 : Int) = G.s := by rw [← hca.oob.1]; exact hf2.1
  have hml := many_le st.plan (s := G.s) (by omega)
  have HS1 := Lib.hid (fun (w : World) (hc : Came w D A n A2 n2 dat oob) => sized_any (w := w) A n c dat G.s 16 hc.few hc.dat)
  have HS2 := Lib.hid (fun (w : World) (hc : Came w D A n A2 n2 dat oob) => sized_any (w := w) A2 n2 c2 oob G.s 17 hc.few2 hc.oob)
  rw [decide_eq_true hf1] at HS1
  rw [decide_eq_true hf2] at HS2
  have hmany : Plan.many st.plan G.s = 0 := by
    have := (Plan.many_bd st.plan G.s).2.2; omega
  have hmn : (m : Int) ≤ G.s := by omega
  obtain ⟨j, hjj⟩ : ∃ j, j = blk G u b := ⟨_, rfl⟩
  rw [← hjj] at HC HR HX HXF hji hj ⊢
  have HSAY := Lib.hid hs
  have HMANY := Lib.hid hmany
  have HJJ := Lib.hid hjj
  have HMM := Lib.hid hmm
  clear h hoff hh hG hca hD hinv hf1 hf2 hj hrt hnx hs hmany hjj hm hmm
  go_enter Try.func45, Try.ntmps45
  go_wp2_with fail
  refine HC.out.mono ?_
  rintro e w2 ⟨rfl, hb⟩
  have HB := Lib.hid hb
  obtain ⟨⟨h1, h2, h3, h4, h5⟩, _⟩ := (H.out.below hb).cells
  clear hb
  have c9 := (H.out.below HB.out).cells.2.2.2.2.2.1
  have hr := HR.out _ (H.out.below HB.out)
  have c7 := (H.out.below HB.out).cells.2.2.2.1
  have hx := HX.out _ (H.out.below HB.out)
  have hxf := HXF.out _ (H.out.below HB.out)
  go_wp2_with fail
  refine (HS1.out _ (HCA.out.below HB.out)).mono ?_
  rintro e w4 ⟨rfl, hw⟩
  subst w4
  go_wp2_with fail
  refine (HS2.out _ (HCA.out.below HB.out)).mono ?_
  rintro e w5 ⟨rfl, hw⟩
  subst w5
  go_upto_region 11 with fail
  refine at_wld ?_
  intro X hX
  have hgr : w2.grownBy X (some P.gn) := by rw [hX]; exact grown_setCell _ _ _
  have HV : Hid (Ref G X P { st with nx := upd st.nx j (g + 1) }) := by
    rw [hX]
    exact Lib.hid ((H.out.below HB.out).set_nx j (g + 1))
  have HT : Hid (Turn P.own P.own w X) := Lib.hid ((Turn.of_below P.own HB.out).trans (Turn.of_grown hgr (own_of P H.out.apart.n (by omega))))
  clear hX hgr HB h1 h2 h3 h4 h5 c9 hr c7 hx hxf
  obtain ⟨ys, hpl, hm0, hdrop⟩ := HV.out.plan
  replace hdrop : ys.drop st.many.toNat = st.plan := hdrop
  replace hm0 : 0 ≤ st.many := hm0
  obtain ⟨mm, hmq⟩ : ∃ mm : Nat, st.many = (mm : Int) := ⟨st.many.toNat, by omega⟩
  replace hpl : PlanPkg.RefAt X P.lo P.gp ys (mm : Int) := by rw [← hmq]; exact hpl
  rw [hmq, Int.toNat_natCast] at hdrop
  have HNEXT := Lib.hid (PlanPkg.refNext_any P.lo P.gp ys mm G.s X.drew (hpl.keep (w' := X.drew) (fun _ _ _ => rfl) HV.out.apart.lo) (by omega))
  rw [hdrop, HSAY.out, HMANY.out] at HNEXT
  have hmt : ys.drop ((mm : Int) + 1).toNat = st.plan.tail := by
    rw [← hdrop, show ((mm : Int) + 1).toNat = mm + 1 by omega, ← List.drop_drop, List.drop_one]
  have HMT := Lib.hid hmt
  have HMQ := Lib.hid hmq
  have HMQ2 : Hid ((mm : Int) + 1 = st.many + 1) := by rw [hmq]; exact Lib.hid rfl
  have c5 : X.cell? ⟨P.g, 5, none⟩ = some (ptr P.gp) := HV.out.cells.2.1
  have c4 : X.cell? ⟨P.g, 4, none⟩ = some (.int .i64 G.s) := HV.out.cells.1.2.2.2.2
  have hgp : P.g ≠ P.gp := fun e => by have h1 := HV.out.apart.g; have h2 := HV.out.apart.p _ HV.out.apart.lo (Nat.le_refl _); rw [← e] at h2; omega
  clear hpl hdrop hmt hmq
  go_region_held3 (fun w' => w'.cell? ⟨P.g, 5, none⟩ = some (ptr P.gp) ∧ w'.cell? ⟨P.g, 4, none⟩ = some (.int .i64 G.s))
    (first | exact ⟨c5, c4⟩ | exact held2_grown (by assumption) hg5 hgp hgp | go_keep)
    (first
      | (go_at_call 65; refine HNEXT.out.mono ?_; rintro e w5 ⟨rfl, hp, hg0'⟩; have hg5 : X.grownBy w5 (some P.gp) := ⟨hg0'.os, hg0'.tape, hg0'.output, hg0'.size, hg0'.block⟩; clear hg0'; have HV2 := Lib.hid (HV.out.set_next hg5 hp (by omega) HMT.out); have HT2 := Lib.hid (HT.out.trans (Turn.of_grown (w := X) (w' := w5) hg5 (own_of P (HV.out.apart.p _ HV.out.apart.lo (Nat.le_refl _)) (by omega)))); clear hp))
  rename_i hHeld
  clear hHeld c5 c4 hg5 HV HT HNEXT HMT
  have e4 : w5.cell? ⟨P.g, 4, none⟩ = some (.int .i64 G.s) := HV2.out.cells.1.2.2.2.2
  have HEV : Hid (Half w5 w5.heap.size u b g dat oob 0 0 (w5.alloc (.cells #[.int .i64 u, .int .i64 b, .int .i64 g, .slice none 0 0, .slice none 0 0] 104)) (.slice none 0 0) (.slice none 0 0)) :=
    Lib.hid ⟨heap_alloc_new w5 _, own2_nil _ _ _ _, own2_nil _ _ _ _, fun b h => by simp [Value.ownBlock] at h, (Below.refl _ _).alloc (Nat.le_refl _) _⟩
  have hcm : Came w5 D A n A2 n2 dat oob := HCA.out.turn HT2.out HDD.out
  have HCM := Lib.hid hcm
  clear hcm
  obtain ⟨ge, hge⟩ : ∃ ge, ge = w5.heap.size := ⟨_, rfl⟩
  have HGE := Lib.hid hge
  go_wp2
  rw [← hge]
  rw [← hge] at HEV
  clear hge
  go_loopw [17] (fun i wr => ∃ (k : Nat) (v1 v2 : Value), i = .int .i64 k ∧ k ≤ m ∧ Half w5 ge u b g dat oob k k wr v1 v2) (fun i _ => m - (intOf i).toNat)
  case atStart => exact ⟨0, _, _, rfl, by omega, HEV.out⟩
  case round =>
    obtain ⟨k, v1, v2, rfl, hk, hh⟩ := hrel
    have HF := Lib.hid hh
    clear hh
    by_cases hlt : k < m
    · exact absurd hlt (by have := HMM.out; omega)
    · obtain rfl : k = m := by omega
      have dk : decide ((k : Int) < 0) = false := decide_eq_false (by omega)
      have hv3 : Ref G wr P _ := HV2.out.below (HGE.out ▸ HF.out.old)
      have HV3 := Lib.hid hv3
      have hgw : ge < wr.heap.size := (Array.getElem?_eq_some_iff.1 HF.out.ev).1
      obtain ⟨e0, e1, e2, e3, e4, _, _⟩ := five_cells HF.out.ev
      have hdl : dat.length = n := HCM.out.dat.1
      have hol : oob.length = n2 := HCM.out.oob.1
      have hk1n : (dat.take k).length = k := by rw [List.length_take]; omega
      have hk2n : (oob.take k).length = k := by rw [List.length_take]; omega
      obtain ⟨Ad, cd, hv1, _, hls1⟩ := NandPkg.Own2.lies HF.out.s1 (fun x hx => by rw [HFIT1.out.2 x (List.mem_of_mem_take hx)]; omega)
      obtain ⟨Ao, co, hv2, _, hls2⟩ := NandPkg.Own2.lies HF.out.s2 (fun x hx => by rw [HFIT2.out.2 x (List.mem_of_mem_take hx)]; omega)
      rw [hk1n] at hv1 hls1
      rw [hk2n] at hv2 hls2
      subst hv1 hv2
      obtain ⟨evs, hlog, htell, hlen⟩ := hv3.log
      obtain ⟨Al, cl, hlv⟩ := hlog.form
      have c6 := hv3.cells.2.2.1
      have f6 := hv3.free 6
      rw [hlv] at c6
      have HLV := Lib.hid hlv
      have hel : evs.length ≤ 1000000000 := by omega
      have hogl : ∀ b, P.own b → b < ge := fun b hb => by rw [HGE.out]; exact HV2.out.lt b hb
      have HOGL := Lib.hid hogl
      have hDD : ∀ b, (P.K b = 7 ∨ (ge + 1 ≤ b ∧ b < wr.heap.size)) → b < wr.heap.size ∧ (Value.slice Al evs.length cl).ownBlock ≠ some b := fun b hb => by
        refine ⟨hb.elim (fun h => Nat.lt_trans (hogl b (own_of P h (by omega))) hgw) (fun h => h.2), fun e => ?_⟩
        have h6 := hv3.apart.l b (by rw [hlv]; exact e)
        have := hogl b (own_of P h6 (by omega))
        omega
      have HDDD := Lib.hid hDD
      have HLOGD : Hid (Log wr (fun b => P.K b = 7 ∨ (ge + 1 ≤ b ∧ b < wr.heap.size)) (.slice Al evs.length cl) evs) := by
        rw [← hlv]
        exact Lib.hid (hlog.keep (fun _ _ => rfl) (fun b h => Or.inl h) (fun _ _ => rfl))
      have HLS1 := Lib.hid (hls1.keep (D' := fun b => P.K b = 7 ∨ (ge + 1 ≤ b ∧ b < wr.heap.size)) (fun b h => Or.inr h) (fun _ _ => rfl))
      have HLS2 := Lib.hid (hls2.keep (D' := fun b => P.K b = 7 ∨ (ge + 1 ≤ b ∧ b < wr.heap.size)) (fun b h => Or.inr h) (fun _ _ => rfl))
      have HTELL : Hid (Tells G (evs ++ [⟨u, b, g, dat.take k, oob.take k⟩]) (lay G u b g dat oob st.rd k)) := by
        refine Lib.hid (Tells.laid HG.out HH.out hg0 hg htell (fun t ht => HINV.out.2 u b g t ht ?_) hmn (by omega))
        rw [← HNX.out]
        exact Int.le_refl _
      have HLEN := Lib.hid hlen
      have hgne : ∀ q : Nat, P.own q → P.K q ≠ 6 → some q ≠ (Value.slice Al evs.length cl).ownBlock := fun q hq hn e => hn (hv3.apart.l q (by rw [hlv]; exact e.symm))
      have hg1k : P.K P.g = 1 := hv3.apart.g
      have hng := hgne P.g (own_of P hg1k (by omega)) (by omega)
      have hnge : some ge ≠ (Value.slice Al evs.length cl).ownBlock := fun e => by have h6 := hv3.apart.l ge (by rw [hlv]; exact e.symm); have := hogl ge (own_of P h6 (by omega)); omega
      have hpg : P.g < ge := hogl P.g (own_of P hg1k (by omega))
      clear hv3 hlog htell hlen hlv hls1 hls2 hDD hogl hgne hdl hol hk1n hk2n
      have c6b := cell_stays ((Below.refl wr.heap.size wr).alloc (Nat.le_refl _) (.cells #[.int .i64 u, .int .i64 b, .int .i64 g, .slice Ad k cd, .slice Ao k co] 104)) c6
      go_upto_region 20 with fail
      refine wp_region_held_drew (S := fun w' => w'.cell? ⟨ge, 0, none⟩ = some (.int .i64 u) ∧ w'.cell? ⟨ge, 1, none⟩ = some (.int .i64 b) ∧ w'.cell? ⟨ge, 2, none⟩ = some (.int .i64 g) ∧ w'.cell? ⟨ge, 3, none⟩ = some (.slice Ad k cd) ∧ w'.cell? ⟨ge, 4, none⟩ = some (.slice Ao k co)) (by kernel_rfl) ?_ (fun hHeld => ?_)
      · exact ⟨e0, e1, e2, e3, e4⟩
      refine Hand.held_take (i := 0) (d := 143) (v := ?_) rfl rfl (by kernel_rfl) (by kernel_rfl) (by kernel_rfl) (by rfl) ?_ (by assumption) (fun _ _ _ h => h) ?_
      rotate_left
      · intro w hSw
        go_simp
        with_reducible rfl
      try simp only [Act.put, List.setIfInBounds_toArray, List.set_cons_zero, List.set_cons_succ]
      refine Hand.held_take (i := 1) (d := 144) (v := ?_) rfl rfl (by kernel_rfl) (by kernel_rfl) (by kernel_rfl) (by rfl) ?_ (by assumption) (fun _ _ _ h => h) ?_
      rotate_left
      · intro w hSw
        go_simp
        with_reducible rfl
      try simp only [Act.put, List.setIfInBounds_toArray, List.set_cons_zero, List.set_cons_succ]
      refine Hand.held_take (i := 2) (d := 145) (v := ?_) rfl rfl (by kernel_rfl) (by kernel_rfl) (by kernel_rfl) (by rfl) ?_ (by assumption) (fun _ _ _ h => h) ?_
      rotate_left
      · intro w hSw
        go_simp
        with_reducible rfl
      try simp only [Act.put, List.setIfInBounds_toArray, List.set_cons_zero, List.set_cons_succ]
      refine Hand.held_take (i := 3) (d := 146) (v := ?_) rfl rfl (by kernel_rfl) (by kernel_rfl) (by kernel_rfl) (by rfl) ?_ (by assumption) (fun _ _ _ h => h) ?_
      rotate_left
      · intro w hSw
        go_simp
        with_reducible rfl
      try simp only [Act.put, List.setIfInBounds_toArray, List.set_cons_zero, List.set_cons_succ]
      refine Hand.held_take (i := 5) (d := 148) (v := ?_) rfl rfl (by kernel_rfl) (by kernel_rfl) (by kernel_rfl) (by rfl) ?_ (by assumption) (fun _ _ _ h => h) ?_
      rotate_left
      · intro w hSw
        go_simp
        with_reducible rfl
      try simp only [Act.put, List.setIfInBounds_toArray, List.set_cons_zero, List.set_cons_succ]
      refine wpAnyH_ready (rs := [4, 6]) (by kernel_rfl) (by simp) ?_
      refine AllReadyH.cons rfl (fun K hK => ?_) (AllReadyH.cons rfl (fun K hK => ?_) AllReadyH.nil)
      · go_simp
        refine hK.out _ _ ?_ (fun hHeld => ?_)
        · first | exact ⟨e0, e1, e2, e3, e4⟩ | exact five_keep ⟨e0, e1, e2, e3, e4⟩ ((Below.refl _ _).alloc (Nat.le_refl _) _) | exact h54 | exact h55 | go_keep
        clear hK K
        refine wpAnyH_ready (rs := [6]) (by kernel_rfl) (by simp) ?_
        refine AllReadyH.cons rfl (fun K hK => ?_) AllReadyH.nil
        go_simp
        refine hK.out _ _ ?_ (fun hHeld => ?_)
        · first | exact ⟨e0, e1, e2, e3, e4⟩ | exact five_keep ⟨e0, e1, e2, e3, e4⟩ ((Below.refl _ _).alloc (Nat.le_refl _) _) | exact h54 | exact h55 | go_keep
        clear hK K
        refine wpAnyH_ready (rs := [7]) (by kernel_rfl) (by simp) ?_
        refine AllReadyH.cons rfl (fun K hK => ?_) AllReadyH.nil
        refine step_append_event wr.drew (o := ⟨some 150, _, _, _, _, _⟩) (by rfl) _ _ (by rfl) (fun b => P.K b = 7 ∨ (ge + 1 ≤ b ∧ b < wr.heap.size)) (.slice Al evs.length cl) evs (by rfl) (by exact HLOGD.out) ⟨u, b, g, dat.take k, oob.take k⟩ Ad k cd Ao k co (by rfl) (by omega) (by omega) (by exact HLS1.out) (by exact HLS2.out) (Nat.le_refl _) (by exact HDDD.out) hel ?_; intro v4 w4 hl4 hg4' hp4'; have hg4 : wr.grownBy w4 (Value.slice Al evs.length cl).ownBlock := ⟨hg4'.os, hg4'.tape, hg4'.output, hg4'.size, hg4'.block⟩; have hp4 : ∀ b, v4.ownBlock = some b → (Value.slice Al evs.length cl).ownBlock = some b ∨ wr.heap.size ≤ b := hp4'; clear hg4' hp4'; obtain ⟨A6, c6', hv4⟩ := hl4.form; rw [List.length_append, List.length_singleton] at hv4; subst hv4; have h54 := five_grown ⟨e0, e1, e2, e3, e4⟩ hg4 hnge; have h55 := five_set h54 (show P.g ≠ ge by omega) 6 (Value.slice A6 (evs.length + 1) c6'); have he6 := hg4.cell c6 hng; have hf6 : w4.frozen? ⟨P.g, 6, none⟩ = false := (by rw [World.frozen?_of_block (w := wr) (hg4.block P.g (by omega) hng)]; exact f6); have HFIN := Lib.hid (HV3.out.logged HOGL.out hgw (by rw [HLV.out]; exact hg4) hl4 HTELL.out (by rw [HLV.out]; exact hp4) (by rw [List.length_append, List.length_singleton]; have := HLEN.out; omega)); have HGR := Lib.hid hg4; clear hl4 hg4 hp4
        refine hK.out _ _ ?_ (fun hHeld => ?_)
        · first | exact ⟨e0, e1, e2, e3, e4⟩ | exact five_keep ⟨e0, e1, e2, e3, e4⟩ ((Below.refl _ _).alloc (Nat.le_refl _) _) | exact h54 | exact h55 | go_keep
        clear hK K
        refine Hand.held_take (i := 8) (d := 151) (v := ?_) rfl rfl (by kernel_rfl) (by kernel_rfl) (by kernel_rfl) (by rfl) ?_ (by assumption) (fun _ _ _ h => h) ?_
        rotate_left
        · intro w hSw
          go_simp
          with_reducible rfl
        try simp only [Act.put, List.setIfInBounds_toArray, List.set_cons_zero, List.set_cons_succ]
        refine Hand.held_take (i := 9) (d := 152) (v := ?_) rfl rfl (by kernel_rfl) (by kernel_rfl) (by kernel_rfl) (by rfl) ?_ (by assumption) (fun _ _ _ h => h) ?_
        rotate_left
        · intro w hSw
          go_simp
          with_reducible rfl
        try simp only [Act.put, List.setIfInBounds_toArray, List.set_cons_zero, List.set_cons_succ]
        refine wpAnyH_ready (rs := [10]) (by kernel_rfl) (by simp) ?_
        refine AllReadyH.cons rfl (fun K hK => ?_) AllReadyH.nil
        go_simp
        refine hK.out _ _ ?_ (fun hHeld => ?_)
        · exact h55
        clear hK K
        refine wpAnyH_done (by kernel_rfl) ?_ _
        clear hHeld
        obtain ⟨P', y1, y2, y3, y4⟩ := HFIN.out
        have HTN : Hid (Turn P.own P'.own w (w4.setCell ⟨P.g, 6, none⟩ (.slice A6 (evs.length + 1) c6'))) := by
          refine Lib.hid (HT2.out.trans ⟨HGR.out.os.trans HF.out.old.os, HGR.out.tape.trans HF.out.old.tape, HGR.out.output.trans HF.out.old.output, Nat.le_trans HF.out.old.size (Nat.le_trans HGR.out.size (grown_setCell _ _ _).size), fun q hq hn => ?_, fun q hq => (y4 q hq).imp id (fun h => by rw [← HGE.out]; exact h)⟩)
          have hqg : q < ge := by rw [HGE.out]; exact hq
          rw [(grown_setCell w4 ⟨P.g, 6, none⟩ _).block q (Nat.lt_of_lt_of_le (by omega) HGR.out.size) (fun e => hn (by injection e with e; rw [e]; exact own_of P hg1k (by omega))), HGR.out.block q (by omega) (fun e => hn (own_of P (HV3.out.apart.l q (by rw [HLV.out]; exact e.symm)) (by omega)))]
          exact HF.out.old.block q hqg
        have HRF : Hid (Ref G (w4.setCell ⟨P.g, 6, none⟩ (.slice A6 (evs.length + 1) c6')) P' { st with nx := upd st.nx j (g + 1), plan := st.plan.tail, many := st.many + 1, rd := lay G u b g dat oob st.rd k }) := by
          rw [← HMQ2.out]
          exact Lib.hid y3
        have HPG := Lib.hid y1
        have HPJ := Lib.hid y2
        clear y1 y2 y3 y4 he6 hf6 h54 h55 c6 c6b f6
        refine at_q ?_
        intro Z hZ
        replace hZ : Z = w4.setCell ⟨P.g, 6, none⟩ (.slice A6 (evs.length + 1) c6') := hZ
        rw [← hZ] at HTN HRF
        clear hZ
        go_wp2
        go_ret
        exact ⟨rfl, P', HPG.out, HRF.out, HTN.out, by rw [HPJ.out]; exact Nat.le_refl _⟩
      · go_simp
        refine hK.out _ _ ?_ (fun hHeld => ?_)
        · first | exact ⟨e0, e1, e2, e3, e4⟩ | exact five_keep ⟨e0, e1, e2, e3, e4⟩ ((Below.refl _ _).alloc (Nat.le_refl _) _) | exact h54 | exact h55 | go_keep
        clear hK K
        refine wpAnyH_ready (rs := [4]) (by kernel_rfl) (by simp) ?_
        refine AllReadyH.cons rfl (fun K hK => ?_) AllReadyH.nil
        go_simp
        refine hK.out _ _ ?_ (fun hHeld => ?_)
        · first | exact ⟨e0, e1, e2, e3, e4⟩ | exact five_keep ⟨e0, e1, e2, e3, e4⟩ ((Below.refl _ _).alloc (Nat.le_refl _) _) | exact h54 | exact h55 | go_keep
        clear hK K
        refine wpAnyH_ready (rs := [7]) (by kernel_rfl) (by simp) ?_
        refine AllReadyH.cons rfl (fun K hK => ?_) AllReadyH.nil
        refine step_append_event wr.drew (o := ⟨some 150, _, _, _, _, _⟩) (by rfl) _ _ (by rfl) (fun b => P.K b = 7 ∨ (ge + 1 ≤ b ∧ b < wr.heap.size)) (.slice Al evs.length cl) evs (by rfl) (by exact HLOGD.out) ⟨u, b, g, dat.take k, oob.take k⟩ Ad k cd Ao k co (by rfl) (by omega) (by omega) (by exact HLS1.out) (by exact HLS2.out) (Nat.le_refl _) (by exact HDDD.out) hel ?_; intro v4 w4 hl4 hg4' hp4'; have hg4 : wr.grownBy w4 (Value.slice Al evs.length cl).ownBlock := ⟨hg4'.os, hg4'.tape, hg4'.output, hg4'.size, hg4'.block⟩; have hp4 : ∀ b, v4.ownBlock = some b → (Value.slice Al evs.length cl).ownBlock = some b ∨ wr.heap.size ≤ b := hp4'; clear hg4' hp4'; obtain ⟨A6, c6', hv4⟩ := hl4.form; rw [List.length_append, List.length_singleton] at hv4; subst hv4; have h54 := five_grown ⟨e0, e1, e2, e3, e4⟩ hg4 hnge; have h55 := five_set h54 (show P.g ≠ ge by omega) 6 (Value.slice A6 (evs.length + 1) c6'); have he6 := hg4.cell c6 hng; have hf6 : w4.frozen? ⟨P.g, 6, none⟩ = false := (by rw [World.frozen?_of_block (w := wr) (hg4.block P.g (by omega) hng)]; exact f6); have HFIN := Lib.hid (HV3.out.logged HOGL.out hgw (by rw [HLV.out]; exact hg4) hl4 HTELL.out (by rw [HLV.out]; exact hp4) (by rw [List.length_append, List.length_singleton]; have := HLEN.out; omega)); have HGR := Lib.hid hg4; clear hl4 hg4 hp4
        refine hK.out _ _ ?_ (fun hHeld => ?_)
        · first | exact ⟨e0, e1, e2, e3, e4⟩ | exact five_keep ⟨e0, e1, e2, e3, e4⟩ ((Below.refl _ _).alloc (Nat.le_refl _) _) | exact h54 | exact h55 | go_keep
        clear hK K
        refine Hand.held_take (i := 8) (d := 151) (v := ?_) rfl rfl (by kernel_rfl) (by kernel_rfl) (by kernel_rfl) (by rfl) ?_ (by assumption) (fun _ _ _ h => h) ?_
        rotate_left
        · intro w hSw
          go_simp
          with_reducible rfl
        try simp only [Act.put, List.setIfInBounds_toArray, List.set_cons_zero, List.set_cons_succ]
        refine Hand.held_take (i := 9) (d := 152) (v := ?_) rfl rfl (by kernel_rfl) (by kernel_rfl) (by kernel_rfl) (by rfl) ?_ (by assumption) (fun _ _ _ h => h) ?_
        rotate_left
        · intro w hSw
          go_simp
          with_reducible rfl
        try simp only [Act.put, List.setIfInBounds_toArray, List.set_cons_zero, List.set_cons_succ]
        refine wpAnyH_ready (rs := [10]) (by kernel_rfl) (by simp) ?_
        refine AllReadyH.cons rfl (fun K hK => ?_) AllReadyH.nil
        go_simp
        refine hK.out _ _ ?_ (fun hHeld => ?_)
        · exact h55
        clear hK K
        refine wpAnyH_done (by kernel_rfl) ?_ _
        clear hHeld
        obtain ⟨P', y1, y2, y3, y4⟩ := HFIN.out
        have HTN : Hid (Turn P.own P'.own w (w4.setCell ⟨P.g, 6, none⟩ (.slice A6 (evs.length + 1) c6'))) := by
          refine Lib.hid (HT2.out.trans ⟨HGR.out.os.trans HF.out.old.os, HGR.out.tape.trans HF.out.old.tape, HGR.out.output.trans HF.out.old.output, Nat.le_trans HF.out.old.size (Nat.le_trans HGR.out.size (grown_setCell _ _ _).size), fun q hq hn => ?_, fun q hq => (y4 q hq).imp id (fun h => by rw [← HGE.out]; exact h)⟩)
          have hqg : q < ge := by rw [HGE.out]; exact hq
          rw [(grown_setCell w4 ⟨P.g, 6, none⟩ _).block q (Nat.lt_of_lt_of_le (by omega) HGR.out.size) (fun e => hn (by injection e with e; rw [e]; exact own_of P hg1k (by omega))), HGR.out.block q (by omega) (fun e => hn (own_of P (HV3.out.apart.l q (by rw [HLV.out]; exact e.symm)) (by omega)))]
          exact HF.out.old.block q hqg
        have HRF : Hid (Ref G (w4.setCell ⟨P.g, 6, none⟩ (.slice A6 (evs.length + 1) c6')) P' { st with nx := upd st.nx j (g + 1), plan := st.plan.tail, many := st.many + 1, rd := lay G u b g dat oob st.rd k }) := by
          rw [← HMQ2.out]
          exact Lib.hid y3
        have HPG := Lib.hid y1
        have HPJ := Lib.hid y2
        clear y1 y2 y3 y4 he6 hf6 h54 h55 c6 c6b f6
        refine at_q ?_
        intro Z hZ
        replace hZ : Z = w4.setCell ⟨P.g, 6, none⟩ (.slice A6 (evs.length + 1) c6') := hZ
        rw [← hZ] at HTN HRF
        clear hZ
        go_wp2
        go_ret
        exact ⟨rfl, P', HPG.out, HRF.out, HTN.out, by rw [HPJ.out]; exact Nat.le_refl _⟩
end

end Go.Proofs.Ytlmdlhfdacmcnaa.NandRef
