/-
  What the document's answer for layer 8 does: Program, of a page that may be programmed.
-/
import Derived.Test.YtlmdlhfdacmcnaaNandRefP
import Derived.Test.YtlmdlhfdacmcnaaHeld
namespace Go.Proofs.Ytlmdlhfdacmcnaa.NandRef
open Go.RowKit Nand NandPkg
set_option maxRecDepth 4000

/-- The event under way. -/
structure Half (X : World) (ge : Nat) (u b g : Int) (dat oob : List (List UInt8)) (k1 k2 : Nat) (wr : World) (v1 v2 : Value) : Prop where
  ev : wr.heap[ge]? = some (.cells #[.int .i64 u, .int .i64 b, .int .i64 g, v1, v2] 104 (0, 0))
  s1 : Sect wr (ge + 1) v1 (dat.take k1)
  s2 : Sect wr (ge + 1) v2 (oob.take k2)
  sep : ∀ b, v1.ownBlock = some b → v2.ownBlock ≠ some b
  old : Below ge X wr

theorem five_cells {w : World} {b : Nat} {t : TypeId} {x y z p q : Value} (h : w.heap[b]? = some (.cells #[x, y, z, p, q] t (0, 0))) : w.cell? ⟨b, 0, none⟩ = some x ∧ w.cell? ⟨b, 1, none⟩ = some y ∧ w.cell? ⟨b, 2, none⟩ = some z ∧ w.cell? ⟨b, 3, none⟩ = some p ∧ w.cell? ⟨b, 4, none⟩ = some q ∧ w.frozen? ⟨b, 3, none⟩ = false ∧ w.frozen? ⟨b, 4, none⟩ = false := by
  simp [World.cell?, World.frozen?, h]

theorem five_keep {w w' : World} {a b c d f : Addr} {x y z p q : Value} (h : w.cell? a = some x ∧ w.cell? b = some y ∧ w.cell? c = some z ∧ w.cell? d = some p ∧ w.cell? f = some q) (hb : Below w.heap.size w w') : w'.cell? a = some x ∧ w'.cell? b = some y ∧ w'.cell? c = some z ∧ w'.cell? d = some p ∧ w'.cell? f = some q :=
  ⟨cell_stays hb h.1, cell_stays hb h.2.1, cell_stays hb h.2.2.1, cell_stays hb h.2.2.2.1, cell_stays hb h.2.2.2.2⟩
theorem five_grown {w w' : World} {ge : Nat} {x y z p q : Value} {row : Option Nat} (h : w.cell? ⟨ge, 0, none⟩ = some x ∧ w.cell? ⟨ge, 1, none⟩ = some y ∧ w.cell? ⟨ge, 2, none⟩ = some z ∧ w.cell? ⟨ge, 3, none⟩ = some p ∧ w.cell? ⟨ge, 4, none⟩ = some q) (hg : w.grownBy w' row) (hn : some ge ≠ row) : w'.cell? ⟨ge, 0, none⟩ = some x ∧ w'.cell? ⟨ge, 1, none⟩ = some y ∧ w'.cell? ⟨ge, 2, none⟩ = some z ∧ w'.cell? ⟨ge, 3, none⟩ = some p ∧ w'.cell? ⟨ge, 4, none⟩ = some q :=
  ⟨hg.cell h.1 hn, hg.cell h.2.1 hn, hg.cell h.2.2.1 hn, hg.cell h.2.2.2.1 hn, hg.cell h.2.2.2.2 hn⟩
theorem five_set {w : World} {ge b : Nat} {x y z p q : Value} (h : w.cell? ⟨ge, 0, none⟩ = some x ∧ w.cell? ⟨ge, 1, none⟩ = some y ∧ w.cell? ⟨ge, 2, none⟩ = some z ∧ w.cell? ⟨ge, 3, none⟩ = some p ∧ w.cell? ⟨ge, 4, none⟩ = some q) (hn : b ≠ ge) (i : Nat) (v : Value) : (w.setCell ⟨b, i, none⟩ v).cell? ⟨ge, 0, none⟩ = some x ∧ (w.setCell ⟨b, i, none⟩ v).cell? ⟨ge, 1, none⟩ = some y ∧ (w.setCell ⟨b, i, none⟩ v).cell? ⟨ge, 2, none⟩ = some z ∧ (w.setCell ⟨b, i, none⟩ v).cell? ⟨ge, 3, none⟩ = some p ∧ (w.setCell ⟨b, i, none⟩ v).cell? ⟨ge, 4, none⟩ = some q :=
  five_grown h (grown_setCell w ⟨b, i, none⟩ v) (fun e => hn (by injection e with e; exact e.symm))

theorem sep_swap {v1 v2 : Value} (h : ∀ b, v1.ownBlock = some b → v2.ownBlock ≠ some b) : ∀ b, v2.ownBlock = some b → v1.ownBlock ≠ some b := fun b h1 h2 => h b h2 h1

/-- One sector's data more. -/
theorem Half.more1 {X : World} {ge : Nat} {u b g : Int} {dat oob : List (List UInt8)} {k1 k2 : Nat} {wr w3 w4 : World} {v1 v2 v1' : Value} (h : Half X ge u b g dat oob k1 k2 wr v1 v2) {vs1 : List Value} {A : Option Addr} {n c : Nat} {xs : List UInt8} (hx : dat[k1]? = some xs)
    (h1 : OwnV wr (ge + 1) 47 v1 vs1) (h1l : vs1.length = (dat.take k1).length) (h1i : ∀ (i : Nat) x xs, vs1[i]? = some x → (dat.take k1)[i]? = some xs → Own wr (ge + 1) 5 x xs)
    (b3 : Below wr.heap.size wr w3) (ho : Own w3 wr.heap.size 5 (.slice A n c) xs) (g4 : w3.grownBy w4 v1.ownBlock) (o4 : OwnV w4 (ge + 1) 47 v1' (vs1 ++ [.slice A n c])) (loc : ∀ b, v1'.ownBlock = some b → v1.ownBlock = some b ∨ w3.heap.size ≤ b) :
    Half X ge u b g dat oob (k1 + 1) k2 (w4.setCell ⟨ge, 3, none⟩ v1') v1' v2 := by
  have hlt : ge < wr.heap.size := (Array.getElem?_eq_some_iff.1 h.ev).1
  obtain ⟨a1, a2, a3⟩ := grow1 h1 h1l h1i h.s2 h.sep b3 ho hlt g4 o4 loc
  obtain ⟨hl, hxe⟩ := List.getElem?_eq_some_iff.1 hx
  have e1 : dat.take k1 ++ [xs] = dat.take (k1 + 1) := by rw [List.take_succ_eq_append_getElem hl, hxe]
  rw [e1] at a1
  have g34 : w4.heap[ge]? = some (.cells #[.int .i64 u, .int .i64 b, .int .i64 g, v1, v2] 104 (0, 0)) := by
    rw [g4.block ge (Nat.lt_of_lt_of_le hlt b3.size) (fun e => by have := h1.block ge e.symm; omega), b3.block ge hlt]
    exact h.ev
  have gs := grown_setCell w4 ⟨ge, 3, none⟩ v1'
  have hk : ∀ b, ge + 1 ≤ b → b < w4.heap.size → (w4.setCell ⟨ge, 3, none⟩ v1').heap[b]? = w4.heap[b]? := fun b h1 h2 => gs.block b h2 (fun e => by injection e with e; simp at e; omega)
  have hXw : X.heap.size ≤ wr.heap.size := h.old.size
  exact ⟨by simp [World.setCell, Array.getElem?_modify, g34], a1.keep hk, a2.keep hk, a3, ((h.old.trans (b3.mono (Nat.le_of_lt hlt))).grown g4 (Nat.le_trans (Nat.le_of_lt hlt) b3.size) (fun b hb => by have := h1.block b hb; omega)).setCell (Nat.le_refl _) _⟩

/-- One sector's bytes beside more. -/
theorem Half.more2 {X : World} {ge : Nat} {u b g : Int} {dat oob : List (List UInt8)} {k1 k2 : Nat} {wr w3 w4 : World} {v1 v2 v2' : Value} (h : Half X ge u b g dat oob k1 k2 wr v1 v2) {vs2 : List Value} {A : Option Addr} {n c : Nat} {xs : List UInt8} (hx : oob[k2]? = some xs)
    (h1 : OwnV wr (ge + 1) 47 v2 vs2) (h1l : vs2.length = (oob.take k2).length) (h1i : ∀ (i : Nat) x xs, vs2[i]? = some x → (oob.take k2)[i]? = some xs → Own wr (ge + 1) 5 x xs)
    (b3 : Below wr.heap.size wr w3) (ho : Own w3 wr.heap.size 5 (.slice A n c) xs) (g4 : w3.grownBy w4 v2.ownBlock) (o4 : OwnV w4 (ge + 1) 47 v2' (vs2 ++ [.slice A n c])) (loc : ∀ b, v2'.ownBlock = some b → v2.ownBlock = some b ∨ w3.heap.size ≤ b) :
    Half X ge u b g dat oob k1 (k2 + 1) (w4.setCell ⟨ge, 4, none⟩ v2') v1 v2' := by
  have hlt : ge < wr.heap.size := (Array.getElem?_eq_some_iff.1 h.ev).1
  obtain ⟨a1, a2, a3⟩ := grow1 h1 h1l h1i h.s1 (sep_swap h.sep) b3 ho hlt g4 o4 loc
  obtain ⟨hl, hxe⟩ := List.getElem?_eq_some_iff.1 hx
  have e1 : oob.take k2 ++ [xs] = oob.take (k2 + 1) := by rw [List.take_succ_eq_append_getElem hl, hxe]
  rw [e1] at a1
  have g34 : w4.heap[ge]? = some (.cells #[.int .i64 u, .int .i64 b, .int .i64 g, v1, v2] 104 (0, 0)) := by
    rw [g4.block ge (Nat.lt_of_lt_of_le hlt b3.size) (fun e => by have := h1.block ge e.symm; omega), b3.block ge hlt]
    exact h.ev
  have gs := grown_setCell w4 ⟨ge, 4, none⟩ v2'
  have hk : ∀ b, ge + 1 ≤ b → b < w4.heap.size → (w4.setCell ⟨ge, 4, none⟩ v2').heap[b]? = w4.heap[b]? := fun b h1 h2 => gs.block b h2 (fun e => by injection e with e; simp at e; omega)
  exact ⟨by simp [World.setCell, Array.getElem?_modify, g34], a2.keep hk, a1.keep hk, sep_swap a3, ((h.old.trans (b3.mono (Nat.le_of_lt hlt))).grown g4 (Nat.le_trans (Nat.le_of_lt hlt) b3.size) (fun b hb => by have := h1.block b hb; omega)).setCell (Nat.le_refl _) _⟩

/-- The kinds, with the log's new block and what a new event leads to. -/
def kinds2 (P : Pl) (ge top : Nat) (v : Value) (b : Nat) : Nat := if v.ownBlock = some b then 6 else if ge + 1 ≤ b ∧ b < top then 7 else P.K b

theorem Ref.logged {G : Shape} {wr w4 : World} {P : Pl} {st : St} (h : Ref G wr P st) {ge : Nat} (hge : ∀ b, P.own b → b < ge) (hgw : ge < wr.heap.size) {v4 : Value} {evs : List Ev} {rd : Int → Option (List UInt8 × List UInt8)} (hg : wr.grownBy w4 P.lv.ownBlock)
    (hl : Log w4 (fun b => P.K b = 7 ∨ (ge + 1 ≤ b ∧ b < wr.heap.size)) v4 evs) (ht : Tells G evs rd) (hp : ∀ b, v4.ownBlock = some b → P.lv.ownBlock = some b ∨ wr.heap.size ≤ b) (hJ : evs.length ≤ P.J + 1) :
    ∃ P' : Pl, P'.g = P.g ∧ P'.J = P.J + 1 ∧ Ref G (w4.setCell ⟨P.g, 6, none⟩ v4) P' { st with rd := rd } ∧ ∀ b, P'.own b → P.own b ∨ ge ≤ b := by
  have hK : ∀ b, P.own b → kinds2 P ge wr.heap.size v4 b = P.K b := fun b hb => by
    unfold kinds2
    have hbl := hge b hb
    split
    · rename_i hv
      rcases hp b hv with h2 | h2
      · exact (h.apart.l b h2).symm
      · omega
    · rw [if_neg (by omega)]
  have hn : ∀ b, kinds2 P ge wr.heap.size v4 b ≠ 0 → b < w4.heap.size := fun b hb => by
    unfold kinds2 at hb
    split at hb
    · rename_i hv
      exact hl.lt b hv
    · split at hb
      · rename_i hr
        exact Nat.lt_of_lt_of_le hr.2 hg.size
      · exact Nat.lt_of_lt_of_le (h.lt b hb) hg.size
  have h7 : ∀ b, (P.K b = 7 ∨ (ge + 1 ≤ b ∧ b < wr.heap.size)) → kinds2 P ge wr.heap.size v4 b = 7 := fun b hb => by
    rcases hb with hb | hb
    · exact (hK b (own_of P hb (by omega))).trans hb
    · unfold kinds2
      have hno : ¬ v4.ownBlock = some b := fun hv => by
        rcases hp b hv with h2 | h2
        · have := hge b (own_of P (h.apart.l b h2) (by omega))
          omega
        · omega
      rw [if_neg hno, if_pos hb]
  have hv6 : ∀ b, v4.ownBlock = some b → kinds2 P ge wr.heap.size v4 b = 6 := fun b hb => by unfold kinds2; rw [if_pos hb]
  refine ⟨{ P with lv := v4, K := kinds2 P ge wr.heap.size v4, J := P.J + 1 }, rfl, rfl, h.set_log hg hK hn (hl.keep (fun _ _ => rfl) h7 (fun _ _ => rfl)) ht hv6 hJ, fun b hb => ?_⟩
  have hb : kinds2 P ge wr.heap.size v4 b ≠ 0 := hb
  unfold kinds2 at hb
  split at hb
  · rename_i hv
    rcases hp b hv with h2 | h2
    · exact Or.inl (own_of P (h.apart.l b h2) (by omega))
    · right
      omega
  · split at hb
    · rename_i hr
      right
      omega
    · exact Or.inl hb

section
variable {G : Shape} {w : World} {P : Pl} {st : St} {D : Nat → Prop}

set_option maxHeartbeats 3200000 in
theorem prog_good (hG : G.Ok) (hinv : Inv G st) (h : Ref G w P st) (hoff : st.off = false) (u b g : Int) (A A2 : Option Addr) (n n2 c c2 : Nat) (dat oob : List (List UInt8)) (hca : Came w D A n A2 n2 dat oob) (hD : ∀ b, D b → ¬ P.own b)
    (hm : st.may G u b g dat oob = 0) (hJ : P.J ≤ 100000) (hk1 : st.many < 4611686018427387904) (hs : Plan.says st.plan = 0) (m : Nat) (hmm : (m : Int) = G.s) :
    Calls Try.prog 45 #[ptr P.g, .int .i64 u, .int .i64 b, .int .i64 g, .slice A n c, .slice A2 n2 c2] w fun e w' => e = .returned (.int .i64 0) ∧ ∃ P', P'.g = P.g ∧ Ref G w' P' { st with nx := upd st.nx (blk G u b) (g + 1), plan := st.plan.tail, many := st.many + 1, rd := lay G u b g dat oob st.rd m } ∧ Turn P.own P'.own w w' ∧ P'.J ≤ P.J + 1 := by
  have hc := h.cells.2.2.2.2.2.2.1
  rw [hoff] at hc
  have H := Lib.hid h
  have HCA := Lib.hid hca
  have HDD := Lib.hid hD
  have HINV := Lib.hid hinv
  have HG := Lib.hid hG
  obtain ⟨⟨hh, hg0, hg, hf1, hf2⟩, hrt, hnx⟩ := may_is hm
  have HH := Lib.hid hh
  have HNX := Lib.hid hnx
  have HFIT1 := Lib.hid hf1
  have HFIT2 := Lib.hid hf2
  have HC := Lib.hid (at_ok hG h u b hh)
  have hj := blk_cnt hG hh
  have HR := Lib.hid (fun w (hd : Ref G w P st) => hd.rr.cell hj)
  rw [hrt] at HR
  have HX := Lib.hid (fun w (hd : Ref G w P st) => hd.rn.cell hj)
  have HXF := Lib.hid (fun w (hd : Ref G w P st) => hd.rn.frozen (blk G u b))
  rw [← hnx] at HX
  have hji : (blk G u b : Int) < (cnt G : Int) := by omega
  have d1 : decide (g < 0) = false := by simp; omega
  have d2 : decide (G.p ≤ g) = false := by simp; omega
  have hs4 : G.s ≤ 4 := hG.may.2.2.2.2.2.2.2.2.2
  have hs1 : 1 ≤ G.s := hG.may.2.2.2.2.2.2.2.2.1
  have hp32 : G.p ≤ 32 := hG.may.2.2.2.2.2.2.2.1
  have hn : (n : Int) = G.s := by rw [← hca.dat.1]; exact hf1.1
  have hn2 : (n2 : Int) = G.s := by rw [← hca.oob.1]; exact hf2.1
  have hml := many_le st.plan (s := G.s) (by omega)
  have HS1 := Lib.hid (fun (w : World) (hc : Came w D A n A2 n2 dat oob) => sized_any (w := w) A n c dat G.s 16 hc.few hc.dat)
  have HS2 := Lib.hid (fun (w : World) (hc : Came w D A n A2 n2 dat oob) => sized_any (w := w) A2 n2 c2 oob G.s 17 hc.few2 hc.oob)
  rw [decide_eq_true hf1] at HS1
  rw [decide_eq_true hf2] at HS2
  have hmany : Plan.many st.plan G.s = 0 := by
    have := (Plan.many_bd st.plan G.s).2.2; omega
  have hmn : (m : Int) ≤ G.s := by omega
  obtain ⟨j, hjj⟩ : ∃ j, j = blk G u b := ⟨_, rfl⟩
  rw [← hjj] at HC HR HX HXF hji hj ⊢
  have HSAY := Lib.hid hs
  have HMANY := Lib.hid hmany
  have HJJ := Lib.hid hjj
  have HMM := Lib.hid hmm
  clear h hoff hh hG hca hD hinv hf1 hf2 hj hrt hnx hs hmany hjj hm hmm
  go_enter Try.func45, Try.ntmps45
  go_wp2_with fail
  refine HC.out.mono ?_
  rintro e w2 ⟨rfl, hb⟩
  have HB := Lib.hid hb
  obtain ⟨⟨h1, h2, h3, h4, h5⟩, _⟩ := (H.out.below hb).cells
  clear hb
  have c9 := (H.out.below HB.out).cells.2.2.2.2.2.1
  have hr := HR.out _ (H.out.below HB.out)
  have c7 := (H.out.below HB.out).cells.2.2.2.1
  have hx := HX.out _ (H.out.below HB.out)
  have hxf := HXF.out _ (H.out.below HB.out)
  go_wp2_with fail
  refine (HS1.out _ (HCA.out.below HB.out)).mono ?_
  rintro e w4 ⟨rfl, hw⟩
  subst w4
  go_wp2_with fail
  refine (HS2.out _ (HCA.out.below HB.out)).mono ?_
  rintro e w5 ⟨rfl, hw⟩
  subst w5
  go_upto_region 11 with fail
  refine at_wld ?_
  intro X hX
  have hgr : w2.grownBy X (some P.gn) := by rw [hX]; exact grown_setCell _ _ _
  have HV : Hid (Ref G X P { st with nx := upd st.nx j (g + 1) }) := by
    rw [hX]
    exact Lib.hid ((H.out.below HB.out).set_nx j (g + 1))
  have HT : Hid (Turn P.own P.own w X) := Lib.hid ((Turn.of_below P.own HB.out).trans (Turn.of_grown hgr (own_of P H.out.apart.n (by omega))))
  clear hX hgr HB h1 h2 h3 h4 h5 c9 hr c7 hx hxf
  obtain ⟨ys, hpl, hm0, hdrop⟩ := HV.out.plan
  replace hdrop : ys.drop st.many.toNat = st.plan := hdrop
  replace hm0 : 0 ≤ st.many := hm0
  obtain ⟨mm, hmq⟩ : ∃ mm : Nat, st.many = (mm : Int) := ⟨st.many.toNat, by omega⟩
  replace hpl : PlanPkg.RefAt X P.lo P.gp ys (mm : Int) := by rw [← hmq]; exact hpl
  rw [hmq, Int.toNat_natCast] at hdrop
  have HNEXT := Lib.hid (PlanPkg.refNext_any P.lo P.gp ys mm G.s X.drew (hpl.keep (w' := X.drew) (fun _ _ _ => rfl) HV.out.apart.lo) (by omega))
  rw [hdrop, HSAY.out, HMANY.out] at HNEXT
  have hmt : ys.drop ((mm : Int) + 1).toNat = st.plan.tail := by
    rw [← hdrop, show ((mm : Int) + 1).toNat = mm + 1 by omega, ← List.drop_drop, List.drop_one]
  have HMT := Lib.hid hmt
  have HMQ := Lib.hid hmq
  have HMQ2 : Hid ((mm : Int) + 1 = st.many + 1) := by rw [hmq]; exact Lib.hid rfl
  have c5 : X.cell? ⟨P.g, 5, none⟩ = some (ptr P.gp) := HV.out.cells.2.1
  have c4 : X.cell? ⟨P.g, 4, none⟩ = some (.int .i64 G.s) := HV.out.cells.1.2.2.2.2
  have hgp : P.g ≠ P.gp := fun e => by have h1 := HV.out.apart.g; have h2 := HV.out.apart.p _ HV.out.apart.lo (Nat.le_refl _); rw [← e] at h2; omega
  clear hpl hdrop hmt hmq
  go_region_held3 (fun w' => w'.cell? ⟨P.g, 5, none⟩ = some (ptr P.gp) ∧ w'.cell? ⟨P.g, 4, none⟩ = some (.int .i64 G.s))
    (first | exact ⟨c5, c4⟩ | exact held2_grown (by assumption) hg5 hgp hgp | go_keep)
    (first
      | (go_at_call 65; refine HNEXT.out.mono ?_; rintro e w5 ⟨rfl, hp, hg0'⟩; have hg5 : X.grownBy w5 (some P.gp) := ⟨hg0'.os, hg0'.tape, hg0'.output, hg0'.size, hg0'.block⟩; clear hg0'; have HV2 := Lib.hid (HV.out.set_next hg5 hp (by omega) HMT.out); have HT2 := Lib.hid (HT.out.trans (Turn.of_grown (w := X) (w' := w5) hg5 (own_of P (HV.out.apart.p _ HV.out.apart.lo (Nat.le_refl _)) (by omega)))); clear hp))
  rename_i hHeld
  clear hHeld c5 c4 hg5 HV HT HNEXT HMT
  have e4 : w5.cell? ⟨P.g, 4, none⟩ = some (.int .i64 G.s) := HV2.out.cells.1.2.2.2.2
  have HEV : Hid (Half w5 w5.heap.size u b g dat oob 0 0 (w5.alloc (.cells #[.int .i64 u, .int .i64 b, .int .i64 g, .slice none 0 0, .slice none 0 0] 104)) (.slice none 0 0) (.slice none 0 0)) :=
    Lib.hid ⟨heap_alloc_new w5 _, own2_nil _ _ _ _, own2_nil _ _ _ _, fun b h => by simp [Value.ownBlock] at h, (Below.refl _ _).alloc (Nat.le_refl _) _⟩
  have hcm : Came w5 D A n A2 n2 dat oob := HCA.out.turn HT2.out HDD.out
  have HCM := Lib.hid hcm
  clear hcm
  obtain ⟨ge, hge⟩ : ∃ ge, ge = w5.heap.size := ⟨_, rfl⟩
  have HGE := Lib.hid hge
  go_wp2
  rw [← hge]
  rw [← hge] at HEV
  clear hge
  go_loopw [17] (fun i wr => ∃ (k : Nat) (v1 v2 : Value), i = .int .i64 k ∧ k ≤ m ∧ Half w5 ge u b g dat oob k k wr v1 v2) (fun i _ => m - (intOf i).toNat)
  case atStart => exact ⟨0, _, _, rfl, by omega, HEV.out⟩
  case round =>
    obtain ⟨k, v1, v2, rfl, hk, hh⟩ := hrel
    have HF := Lib.hid hh
    clear hh
    by_cases hlt : k < m
    · skip
      have hld := HCM.out.dat.keep (D' := D) (fun _ h => h) (fun b hb => HF.out.old.block b (by rw [HGE.out]; exact HCM.out.lt b hb))
      have hlo := HCM.out.oob.keep (D' := D) (fun _ h => h) (fun b hb => HF.out.old.block b (by rw [HGE.out]; exact HCM.out.lt b hb))
      have hDl : ∀ b, D b → b < ge := fun b hb => by rw [HGE.out]; exact HCM.out.lt b hb
      have hgw : ge < wr.heap.size := (Array.getElem?_eq_some_iff.1 HF.out.ev).1
      obtain ⟨b1, o1, A1, n1, c1, xs, rfl, hb1, hc1, hn1, hl1, hx1⟩ := hld.at_ (show k < n by omega)
      obtain ⟨b2, o2, A3, n3, c3, ys, rfl, hb2, hc2, hn3, hl2, hx2⟩ := hlo.at_ (show k < n2 by omega)
      have hb1l := hDl b1 hb1
      have hb2l := hDl b2 hb2
      have HR1 := Lib.hid (hl1.bytes (B := wr.heap.size) (fun b hb => by have := hDl b hb; omega))
      have HLN1 := Lib.hid (show ([] : List UInt8).length + n1 ≤ 140737488355328 by simp; omega)
      have HX1 := Lib.hid hx1
      have HX2 := Lib.hid hx2
      have HLIE2 := Lib.hid hl2
      have HDL := Lib.hid hDl
      obtain ⟨_, _, _, e3, _, f3, _⟩ := five_cells HF.out.ev
      obtain ⟨vs1, p1, p2, p3⟩ := HF.out.s1
      obtain ⟨AA, ca, hv1, _, _, _⟩ := p1.reads
      subst hv1
      have hvl : vs1.length ≤ 1000000000000 := by rw [p2, List.length_take]; omega
      have HK := Lib.hid p1
      have HL := Lib.hid p2
      have HI := Lib.hid p3
      have hkn1 : (k : Int) < (n : Int) := by omega
      have hkn2 : (k : Int) < (n2 : Int) := by omega
      clear hld hlo hDl hb1 hb2 hl1 hl2 hx1 hx2 p1 p2 p3
      obtain ⟨WR, rfl⟩ : ∃ W, W = wr := ⟨_, rfl⟩
      go_upto_region 18 with fail
      go_cut [130] (fun _ wx => ∃ v1', Half w5 ge u b g dat oob (k + 1) k wx v1' v2)
      case first =>
        refine wp_region_held_drew (S := fun w' => w'.cell? ⟨b1, o1 + k, none⟩ = some (.slice A1 n1 c1)) (by kernel_rfl) ?_ (fun hHeld => ?_)
        · exact hc1
        refine Hand.held_take (i := 0) (d := 121) (v := ?_) rfl rfl (by kernel_rfl) (by kernel_rfl) (by kernel_rfl) (by rfl) ?_ (by assumption) (fun _ _ _ h => h) ?_
        rotate_left
        · intro w hSw
          go_simp
          with_reducible rfl
        try simp only [Act.put, List.setIfInBounds_toArray, List.set_cons_zero, List.set_cons_succ]
        refine Hand.held_take (i := 3) (d := 124) (v := ?_) rfl rfl (by kernel_rfl) (by kernel_rfl) (by kernel_rfl) (by rfl) ?_ (by assumption) (fun _ _ _ h => h) ?_
        rotate_left
        · intro w hSw
          go_simp
          with_reducible rfl
        try simp only [Act.put, List.setIfInBounds_toArray, List.set_cons_zero, List.set_cons_succ]
        refine Hand.held_take (i := 4) (d := 125) (v := ?_) rfl rfl (by kernel_rfl) (by kernel_rfl) (by kernel_rfl) (by rfl) ?_ (by assumption) (fun _ _ _ h => h) ?_
        rotate_left
        · intro w hSw
          go_simp
          with_reducible rfl
        try simp only [Act.put, List.setIfInBounds_toArray, List.set_cons_zero, List.set_cons_succ]
        refine Hand.held_take (i := 5) (d := 126) (v := ?_) rfl rfl (by kernel_rfl) (by kernel_rfl) (by kernel_rfl) (by rfl) ?_ (by assumption) (fun _ _ _ h => h) ?_
        rotate_left
        · intro w hSw
          go_simp
          with_reducible rfl
        try simp only [Act.put, List.setIfInBounds_toArray, List.set_cons_zero, List.set_cons_succ]
        refine Hand.held_take (i := 6) (d := 127) (v := ?_) rfl rfl (by kernel_rfl) (by kernel_rfl) (by kernel_rfl) (by rfl) ?_ (by assumption) (fun _ _ _ h => h) ?_
        rotate_left
        · intro w hSw
          go_simp
          with_reducible rfl
        try simp only [Act.put, List.setIfInBounds_toArray, List.set_cons_zero, List.set_cons_succ]
        refine wpAnyH_ready (rs := [1, 2]) (by kernel_rfl) (by simp) ?_
        refine AllReadyH.cons rfl (fun K hK => ?_) (AllReadyH.cons rfl (fun K hK => ?_) AllReadyH.nil)
        · go_simp
          refine hK.out _ _ ?_ (fun hHeld => ?_)
          · first | exact hc1 | exact cell_stays ((Below.refl _ _).alloc (Nat.le_refl _) _) hc1 | exact cell_stays (hB3.alloc hB3.size _) hc1 | exact cell_stays hB3 hc1 | exact hk4 | exact hk5 | go_keep
          clear hK K
          refine wpAnyH_ready (rs := [2]) (by kernel_rfl) (by simp) ?_
          refine AllReadyH.cons rfl (fun K hK => ?_) AllReadyH.nil
          go_simp
          refine hK.out _ _ ?_ (fun hHeld => ?_)
          · first | exact hc1 | exact cell_stays ((Below.refl _ _).alloc (Nat.le_refl _) _) hc1 | exact cell_stays (hB3.alloc hB3.size _) hc1 | exact cell_stays hB3 hc1 | exact hk4 | exact hk5 | go_keep
          clear hK K
          refine wpAnyH_ready (rs := [7]) (by kernel_rfl) (by simp) ?_
          refine AllReadyH.cons rfl (fun K hK => ?_) AllReadyH.nil
          refine step_append_bytes _ (o := ⟨some 128, _, _, _, _, _⟩) (by rfl) _ _ _ (by rfl) WR.heap.size 5 Try.underlying47 info8 (.slice (some ⟨WR.heap.size, 0, none⟩) 0 0) [] (by rfl) (by exact own_new WR _ [] _ rfl (Nat.zero_le _)) WR.heap.size A1 n1 c1 xs (by rfl) (by exact bytes_keep HR1.out (((Below.refl _ _).alloc (Nat.le_refl _) _).drew)) HLN1.out (by simp) ?_; intro v3 w3 ho3 hg3 _; replace ho3 : Own w3 WR.heap.size 5 v3 xs := ho3; have hB3 : Below WR.heap.size WR w3 := (((Below.refl _ WR).alloc (Nat.le_refl _) _).drew).grown hg3 (by simp) (fun k hk => by simp [Value.ownBlock] at hk; omega); obtain ⟨A5, c5, hv3, _, _, _⟩ := ho3.readsc; subst hv3; have he3 := cell_stays hB3 e3; have he3b := cell_stays ((Below.refl w3.heap.size w3).alloc (Nat.le_refl _) (.cells #[.slice A5 xs.length c5] 47)) he3; have HO3 := Lib.hid ho3; have hb3s := hB3.size; clear hg3 ho3
          refine hK.out _ _ ?_ (fun hHeld => ?_)
          · first | exact hc1 | exact cell_stays ((Below.refl _ _).alloc (Nat.le_refl _) _) hc1 | exact cell_stays (hB3.alloc hB3.size _) hc1 | exact cell_stays hB3 hc1 | exact hk4 | exact hk5 | go_keep
          clear hK K
          refine wpAnyH_ready (rs := [8]) (by kernel_rfl) (by simp) ?_
          refine AllReadyH.cons rfl (fun K hK => ?_) AllReadyH.nil
          go_simp
          refine hK.out _ _ ?_ (fun hHeld => ?_)
          · first | exact hc1 | exact cell_stays ((Below.refl _ _).alloc (Nat.le_refl _) _) hc1 | exact cell_stays (hB3.alloc hB3.size _) hc1 | exact cell_stays hB3 hc1 | exact hk4 | exact hk5 | go_keep
          clear hK K
          refine wpAnyH_ready (rs := [9]) (by kernel_rfl) (by simp) ?_
          refine AllReadyH.cons rfl (fun K hK => ?_) AllReadyH.nil
          refine step_append_slice w3 (o := ⟨some 130, _, _, _, _, _⟩) (by rfl) _ _ _ (by rfl) (ge + 1) 47 Try.underlying58 infoS (Value.slice AA vs1.length ca) vs1 (by rfl) (by exact HK.out.below hB3) A5 xs.length c5 (by rfl) hvl (by omega) ?_; intro v4 w4 ho4 hg4 hl4; obtain ⟨A6, c6, hv4, _, _, _⟩ := ho4.reads; rw [List.length_append, List.length_singleton] at hv4; subst hv4; have hG4 := (World.grownBy_alloc w3 (.cells #[.slice A5 xs.length c5] 47) _).trans hg4; have hne : ∀ q : Nat, q < ge + 1 → some q ≠ (Value.slice AA vs1.length ca).ownBlock := (fun q hq e => by have := HK.out.block q e.symm; omega); have he4 := hG4.cell he3 (hne ge (by omega)); have hf4 : w4.frozen? ⟨ge, 3, none⟩ = false := (by have hh1 : w4.heap[ge]? = WR.heap[ge]? := (hG4.block ge (by omega) (hne ge (by omega))).trans (hB3.block ge hgw); rw [World.frozen?_of_block (w := WR) hh1]; exact f3); have hk4 := hG4.cell (cell_stays hB3 hc1) (hne b1 (by omega)); have hk5 := (grown_setCell w4 ⟨ge, 3, none⟩ (Value.slice A6 (vs1.length + 1) c6)).cell hk4 (fun e => by injection e with e; simp at e; omega); have HM := Lib.hid (HF.out.more1 HX1.out HK.out HL.out HI.out hB3 HO3.out hG4 ho4 hl4); clear ho4 hg4 hl4 hG4
          refine hK.out _ _ ?_ (fun hHeld => ?_)
          · first | exact hc1 | exact cell_stays ((Below.refl _ _).alloc (Nat.le_refl _) _) hc1 | exact cell_stays (hB3.alloc hB3.size _) hc1 | exact cell_stays hB3 hc1 | exact hk4 | exact hk5 | go_keep
          clear hK K
          refine Hand.held_take (i := 10) (d := 131) (v := ?_) rfl rfl (by kernel_rfl) (by kernel_rfl) (by kernel_rfl) (by rfl) ?_ (by assumption) (fun _ _ _ h => h) ?_
          rotate_left
          · intro w hSw
            go_simp
            with_reducible rfl
          try simp only [Act.put, List.setIfInBounds_toArray, List.set_cons_zero, List.set_cons_succ]
          refine wpAnyH_ready (rs := [11]) (by kernel_rfl) (by simp) ?_
          refine AllReadyH.cons rfl (fun K hK => ?_) AllReadyH.nil
          go_simp
          refine hK.out _ _ ?_ (fun hHeld => ?_)
          · exact hk5
          clear hK K
          refine wpAnyH_done (by kernel_rfl) ?_ _
          clear hHeld
          go_wp2_with fail
          go_meet
          exact ⟨_, HM.out⟩
        · go_simp
          refine hK.out _ _ ?_ (fun hHeld => ?_)
          · first | exact hc1 | exact cell_stays ((Below.refl _ _).alloc (Nat.le_refl _) _) hc1 | exact cell_stays (hB3.alloc hB3.size _) hc1 | exact cell_stays hB3 hc1 | exact hk4 | exact hk5 | go_keep
          clear hK K
          refine wpAnyH_ready (rs := [1, 7]) (by kernel_rfl) (by simp) ?_
          refine AllReadyH.cons rfl (fun K hK => ?_) (AllReadyH.cons rfl (fun K hK => ?_) AllReadyH.nil)
          · go_simp
            refine hK.out _ _ ?_ (fun hHeld => ?_)
            · first | exact hc1 | exact cell_stays ((Below.refl _ _).alloc (Nat.le_refl _) _) hc1 | exact cell_stays (hB3.alloc hB3.size _) hc1 | exact cell_stays hB3 hc1 | exact hk4 | exact hk5 | go_keep
            clear hK K
            refine wpAnyH_ready (rs := [7]) (by kernel_rfl) (by simp) ?_
            refine AllReadyH.cons rfl (fun K hK => ?_) AllReadyH.nil
            refine step_append_bytes _ (o := ⟨some 128, _, _, _, _, _⟩) (by rfl) _ _ _ (by rfl) WR.heap.size 5 Try.underlying47 info8 (.slice (some ⟨WR.heap.size, 0, none⟩) 0 0) [] (by rfl) (by exact own_new WR _ [] _ rfl (Nat.zero_le _)) WR.heap.size A1 n1 c1 xs (by rfl) (by exact bytes_keep HR1.out (((Below.refl _ _).alloc (Nat.le_refl _) _).drew)) HLN1.out (by simp) ?_; intro v3 w3 ho3 hg3 _; replace ho3 : Own w3 WR.heap.size 5 v3 xs := ho3; have hB3 : Below WR.heap.size WR w3 := (((Below.refl _ WR).alloc (Nat.le_refl _) _).drew).grown hg3 (by simp) (fun k hk => by simp [Value.ownBlock] at hk; omega); obtain ⟨A5, c5, hv3, _, _, _⟩ := ho3.readsc; subst hv3; have he3 := cell_stays hB3 e3; have he3b := cell_stays ((Below.refl w3.heap.size w3).alloc (Nat.le_refl _) (.cells #[.slice A5 xs.length c5] 47)) he3; have HO3 := Lib.hid ho3; have hb3s := hB3.size; clear hg3 ho3
            refine hK.out _ _ ?_ (fun hHeld => ?_)
            · first | exact hc1 | exact cell_stays ((Below.refl _ _).alloc (Nat.le_refl _) _) hc1 | exact cell_stays (hB3.alloc hB3.size _) hc1 | exact cell_stays hB3 hc1 | exact hk4 | exact hk5 | go_keep
            clear hK K
            refine wpAnyH_ready (rs := [8]) (by kernel_rfl) (by simp) ?_
            refine AllReadyH.cons rfl (fun K hK => ?_) AllReadyH.nil
            go_simp
            refine hK.out _ _ ?_ (fun hHeld => ?_)
            · first | exact hc1 | exact cell_stays ((Below.refl _ _).alloc (Nat.le_refl _) _) hc1 | exact cell_stays (hB3.alloc hB3.size _) hc1 | exact cell_stays hB3 hc1 | exact hk4 | exact hk5 | go_keep
            clear hK K
            refine wpAnyH_ready (rs := [9]) (by kernel_rfl) (by simp) ?_
            refine AllReadyH.cons rfl (fun K hK => ?_) AllReadyH.nil
            refine step_append_slice w3 (o := ⟨some 130, _, _, _, _, _⟩) (by rfl) _ _ _ (by rfl) (ge + 1) 47 Try.underlying58 infoS (Value.slice AA vs1.length ca) vs1 (by rfl) (by exact HK.out.below hB3) A5 xs.length c5 (by rfl) hvl (by omega) ?_; intro v4 w4 ho4 hg4 hl4; obtain ⟨A6, c6, hv4, _, _, _⟩ := ho4.reads; rw [List.length_append, List.length_singleton] at hv4; subst hv4; have hG4 := (World.grownBy_alloc w3 (.cells #[.slice A5 xs.length c5] 47) _).trans hg4; have hne : ∀ q : Nat, q < ge + 1 → some q ≠ (Value.slice AA vs1.length ca).ownBlock := (fun q hq e => by have := HK.out.block q e.symm; omega); have he4 := hG4.cell he3 (hne ge (by omega)); have hf4 : w4.frozen? ⟨ge, 3, none⟩ = false := (by have hh1 : w4.heap[ge]? = WR.heap[ge]? := (hG4.block ge (by omega) (hne ge (by omega))).trans (hB3.block ge hgw); rw [World.frozen?_of_block (w := WR) hh1]; exact f3); have hk4 := hG4.cell (cell_stays hB3 hc1) (hne b1 (by omega)); have hk5 := (grown_setCell w4 ⟨ge, 3, none⟩ (Value.slice A6 (vs1.length + 1) c6)).cell hk4 (fun e => by injection e with e; simp at e; omega); have HM := Lib.hid (HF.out.more1 HX1.out HK.out HL.out HI.out hB3 HO3.out hG4 ho4 hl4); clear ho4 hg4 hl4 hG4
            refine hK.out _ _ ?_ (fun hHeld => ?_)
            · first | exact hc1 | exact cell_stays ((Below.refl _ _).alloc (Nat.le_refl _) _) hc1 | exact cell_stays (hB3.alloc hB3.size _) hc1 | exact cell_stays hB3 hc1 | exact hk4 | exact hk5 | go_keep
            clear hK K
            refine Hand.held_take (i := 10) (d := 131) (v := ?_) rfl rfl (by kernel_rfl) (by kernel_rfl) (by kernel_rfl) (by rfl) ?_ (by assumption) (fun _ _ _ h => h) ?_
            rotate_left
            · intro w hSw
              go_simp
              with_reducible rfl
            try simp only [Act.put, List.setIfInBounds_toArray, List.set_cons_zero, List.set_cons_succ]
            refine wpAnyH_ready (rs := [11]) (by kernel_rfl) (by simp) ?_
            refine AllReadyH.cons rfl (fun K hK => ?_) AllReadyH.nil
            go_simp
            refine hK.out _ _ ?_ (fun hHeld => ?_)
            · exact hk5
            clear hK K
            refine wpAnyH_done (by kernel_rfl) ?_ _
            clear hHeld
            go_wp2_with fail
            go_meet
            exact ⟨_, HM.out⟩
          · refine step_append_bytes _ (o := ⟨some 128, _, _, _, _, _⟩) (by rfl) _ _ _ (by rfl) WR.heap.size 5 Try.underlying47 info8 (.slice (some ⟨WR.heap.size, 0, none⟩) 0 0) [] (by rfl) (by exact own_new WR _ [] _ rfl (Nat.zero_le _)) WR.heap.size A1 n1 c1 xs (by rfl) (by exact bytes_keep HR1.out (((Below.refl _ _).alloc (Nat.le_refl _) _).drew)) HLN1.out (by simp) ?_; intro v3 w3 ho3 hg3 _; replace ho3 : Own w3 WR.heap.size 5 v3 xs := ho3; have hB3 : Below WR.heap.size WR w3 := (((Below.refl _ WR).alloc (Nat.le_refl _) _).drew).grown hg3 (by simp) (fun k hk => by simp [Value.ownBlock] at hk; omega); obtain ⟨A5, c5, hv3, _, _, _⟩ := ho3.readsc; subst hv3; have he3 := cell_stays hB3 e3; have he3b := cell_stays ((Below.refl w3.heap.size w3).alloc (Nat.le_refl _) (.cells #[.slice A5 xs.length c5] 47)) he3; have HO3 := Lib.hid ho3; have hb3s := hB3.size; clear hg3 ho3
            refine hK.out _ _ ?_ (fun hHeld => ?_)
            · first | exact hc1 | exact cell_stays ((Below.refl _ _).alloc (Nat.le_refl _) _) hc1 | exact cell_stays (hB3.alloc hB3.size _) hc1 | exact cell_stays hB3 hc1 | exact hk4 | exact hk5 | go_keep
            clear hK K
            refine wpAnyH_ready (rs := [1, 8]) (by kernel_rfl) (by simp) ?_
            refine AllReadyH.cons rfl (fun K hK => ?_) (AllReadyH.cons rfl (fun K hK => ?_) AllReadyH.nil)
            · go_simp
              refine hK.out _ _ ?_ (fun hHeld => ?_)
              · first | exact hc1 | exact cell_stays ((Below.refl _ _).alloc (Nat.le_refl _) _) hc1 | exact cell_stays (hB3.alloc hB3.size _) hc1 | exact cell_stays hB3 hc1 | exact hk4 | exact hk5 | go_keep
              clear hK K
              refine wpAnyH_ready (rs := [8]) (by kernel_rfl) (by simp) ?_
              refine AllReadyH.cons rfl (fun K hK => ?_) AllReadyH.nil
              go_simp
              refine hK.out _ _ ?_ (fun hHeld => ?_)
              · first | exact hc1 | exact cell_stays ((Below.refl _ _).alloc (Nat.le_refl _) _) hc1 | exact cell_stays (hB3.alloc hB3.size _) hc1 | exact cell_stays hB3 hc1 | exact hk4 | exact hk5 | go_keep
              clear hK K
              refine wpAnyH_ready (rs := [9]) (by kernel_rfl) (by simp) ?_
              refine AllReadyH.cons rfl (fun K hK => ?_) AllReadyH.nil
              refine step_append_slice w3 (o := ⟨some 130, _, _, _, _, _⟩) (by rfl) _ _ _ (by rfl) (ge + 1) 47 Try.underlying58 infoS (Value.slice AA vs1.length ca) vs1 (by rfl) (by exact HK.out.below hB3) A5 xs.length c5 (by rfl) hvl (by omega) ?_; intro v4 w4 ho4 hg4 hl4; obtain ⟨A6, c6, hv4, _, _, _⟩ := ho4.reads; rw [List.length_append, List.length_singleton] at hv4; subst hv4; have hG4 := (World.grownBy_alloc w3 (.cells #[.slice A5 xs.length c5] 47) _).trans hg4; have hne : ∀ q : Nat, q < ge + 1 → some q ≠ (Value.slice AA vs1.length ca).ownBlock := (fun q hq e => by have := HK.out.block q e.symm; omega); have he4 := hG4.cell he3 (hne ge (by omega)); have hf4 : w4.frozen? ⟨ge, 3, none⟩ = false := (by have hh1 : w4.heap[ge]? = WR.heap[ge]? := (hG4.block ge (by omega) (hne ge (by omega))).trans (hB3.block ge hgw); rw [World.frozen?_of_block (w := WR) hh1]; exact f3); have hk4 := hG4.cell (cell_stays hB3 hc1) (hne b1 (by omega)); have hk5 := (grown_setCell w4 ⟨ge, 3, none⟩ (Value.slice A6 (vs1.length + 1) c6)).cell hk4 (fun e => by injection e with e; simp at e; omega); have HM := Lib.hid (HF.out.more1 HX1.out HK.out HL.out HI.out hB3 HO3.out hG4 ho4 hl4); clear ho4 hg4 hl4 hG4
              refine hK.out _ _ ?_ (fun hHeld => ?_)
              · first | exact hc1 | exact cell_stays ((Below.refl _ _).alloc (Nat.le_refl _) _) hc1 | exact cell_stays (hB3.alloc hB3.size _) hc1 | exact cell_stays hB3 hc1 | exact hk4 | exact hk5 | go_keep
              clear hK K
              refine Hand.held_take (i := 10) (d := 131) (v := ?_) rfl rfl (by kernel_rfl) (by kernel_rfl) (by kernel_rfl) (by rfl) ?_ (by assumption) (fun _ _ _ h => h) ?_
              rotate_left
              · intro w hSw
                go_simp
                with_reducible rfl
              try simp only [Act.put, List.setIfInBounds_toArray, List.set_cons_zero, List.set_cons_succ]
              refine wpAnyH_ready (rs := [11]) (by kernel_rfl) (by simp) ?_
              refine AllReadyH.cons rfl (fun K hK => ?_) AllReadyH.nil
              go_simp
              refine hK.out _ _ ?_ (fun hHeld => ?_)
              · exact hk5
              clear hK K
              refine wpAnyH_done (by kernel_rfl) ?_ _
              clear hHeld
              go_wp2_with fail
              go_meet
              exact ⟨_, HM.out⟩
            · go_simp
              refine hK.out _ _ ?_ (fun hHeld => ?_)
              · first | exact hc1 | exact cell_stays ((Below.refl _ _).alloc (Nat.le_refl _) _) hc1 | exact cell_stays (hB3.alloc hB3.size _) hc1 | exact cell_stays hB3 hc1 | exact hk4 | exact hk5 | go_keep
              clear hK K
              refine wpAnyH_ready (rs := [1]) (by kernel_rfl) (by simp) ?_
              refine AllReadyH.cons rfl (fun K hK => ?_) AllReadyH.nil
              go_simp
              refine hK.out _ _ ?_ (fun hHeld => ?_)
              · first | exact hc1 | exact cell_stays ((Below.refl _ _).alloc (Nat.le_refl _) _) hc1 | exact cell_stays (hB3.alloc hB3.size _) hc1 | exact cell_stays hB3 hc1 | exact hk4 | exact hk5 | go_keep
              clear hK K
              refine wpAnyH_ready (rs := [9]) (by kernel_rfl) (by simp) ?_
              refine AllReadyH.cons rfl (fun K hK => ?_) AllReadyH.nil
              refine step_append_slice w3 (o := ⟨some 130, _, _, _, _, _⟩) (by rfl) _ _ _ (by rfl) (ge + 1) 47 Try.underlying58 infoS (Value.slice AA vs1.length ca) vs1 (by rfl) (by exact HK.out.below hB3) A5 xs.length c5 (by rfl) hvl (by omega) ?_; intro v4 w4 ho4 hg4 hl4; obtain ⟨A6, c6, hv4, _, _, _⟩ := ho4.reads; rw [List.length_append, List.length_singleton] at hv4; subst hv4; have hG4 := (World.grownBy_alloc w3 (.cells #[.slice A5 xs.length c5] 47) _).trans hg4; have hne : ∀ q : Nat, q < ge + 1 → some q ≠ (Value.slice AA vs1.length ca).ownBlock := (fun q hq e => by have := HK.out.block q e.symm; omega); have he4 := hG4.cell he3 (hne ge (by omega)); have hf4 : w4.frozen? ⟨ge, 3, none⟩ = false := (by have hh1 : w4.heap[ge]? = WR.heap[ge]? := (hG4.block ge (by omega) (hne ge (by omega))).trans (hB3.block ge hgw); rw [World.frozen?_of_block (w := WR) hh1]; exact f3); have hk4 := hG4.cell (cell_stays hB3 hc1) (hne b1 (by omega)); have hk5 := (grown_setCell w4 ⟨ge, 3, none⟩ (Value.slice A6 (vs1.length + 1) c6)).cell hk4 (fun e => by injection e with e; simp at e; omega); have HM := Lib.hid (HF.out.more1 HX1.out HK.out HL.out HI.out hB3 HO3.out hG4 ho4 hl4); clear ho4 hg4 hl4 hG4
              refine hK.out _ _ ?_ (fun hHeld => ?_)
              · first | exact hc1 | exact cell_stays ((Below.refl _ _).alloc (Nat.le_refl _) _) hc1 | exact cell_stays (hB3.alloc hB3.size _) hc1 | exact cell_stays hB3 hc1 | exact hk4 | exact hk5 | go_keep
              clear hK K
              refine Hand.held_take (i := 10) (d := 131) (v := ?_) rfl rfl (by kernel_rfl) (by kernel_rfl) (by kernel_rfl) (by rfl) ?_ (by assumption) (fun _ _ _ h => h) ?_
              rotate_left
              · intro w hSw
                go_simp
                with_reducible rfl
              try simp only [Act.put, List.setIfInBounds_toArray, List.set_cons_zero, List.set_cons_succ]
              refine wpAnyH_ready (rs := [11]) (by kernel_rfl) (by simp) ?_
              refine AllReadyH.cons rfl (fun K hK => ?_) AllReadyH.nil
              go_simp
              refine hK.out _ _ ?_ (fun hHeld => ?_)
              · exact hk5
              clear hK K
              refine wpAnyH_done (by kernel_rfl) ?_ _
              clear hHeld
              go_wp2_with fail
              go_meet
              exact ⟨_, HM.out⟩
      case rest =>
        obtain ⟨v1', hh2⟩ := hcut
        rename World => wd
        have HF2 := Lib.hid hh2
        have hgd : ge < wd.heap.size := (Array.getElem?_eq_some_iff.1 hh2.ev).1
        have hc2d : wd.cell? ⟨b2, o2 + k, none⟩ = some (.slice A3 n3 c3) := by
          rw [World.cell?_of_block (w := w5) (HF2.out.old.block b2 hb2l), ← World.cell?_of_block (w := w5) (HF.out.old.block b2 hb2l)]
          exact hc2
        have HR2 := Lib.hid ((HLIE2.out.keep (w' := wd) (D' := D) (fun _ h => h) (fun q hq => (HF2.out.old.block q (HDL.out q hq)).trans (HF.out.old.block q (HDL.out q hq)).symm)).bytes (B := wd.heap.size) (fun q hq => by have := HDL.out q hq; omega))
        have HLN2 := Lib.hid (show ([] : List UInt8).length + n3 ≤ 140737488355328 by simp; omega)
        obtain ⟨_, _, _, _, e4, _, f4⟩ := five_cells hh2.ev
        obtain ⟨vs2, q1, q2, q3⟩ := hh2.s2
        obtain ⟨AB, cb, hv2, _, _, _⟩ := q1.reads
        subst hv2
        have hvl2 : vs2.length ≤ 1000000000000 := by rw [q2, List.length_take]; omega
        have HK2 := Lib.hid q1
        have HL2 := Lib.hid q2
        have HI2 := Lib.hid q3
        clear hh2 q1 q2 q3 e3 f3 hc1
        go_upto_region 19 with fail
        refine wp_region_held_drew (S := fun w' => w'.cell? ⟨b2, o2 + k, none⟩ = some (.slice A3 n3 c3)) (by kernel_rfl) ?_ (fun hHeld => ?_)
        · exact hc2d
        refine Hand.held_take (i := 0) (d := 132) (v := ?_) rfl rfl (by kernel_rfl) (by kernel_rfl) (by kernel_rfl) (by rfl) ?_ (by assumption) (fun _ _ _ h => h) ?_
        rotate_left
        · intro w hSw
          go_simp
          with_reducible rfl
        try simp only [Act.put, List.setIfInBounds_toArray, List.set_cons_zero, List.set_cons_succ]
        refine Hand.held_take (i := 3) (d := 135) (v := ?_) rfl rfl (by kernel_rfl) (by kernel_rfl) (by kernel_rfl) (by rfl) ?_ (by assumption) (fun _ _ _ h => h) ?_
        rotate_left
        · intro w hSw
          go_simp
          with_reducible rfl
        try simp only [Act.put, List.setIfInBounds_toArray, List.set_cons_zero, List.set_cons_succ]
        refine Hand.held_take (i := 4) (d := 136) (v := ?_) rfl rfl (by kernel_rfl) (by kernel_rfl) (by kernel_rfl) (by rfl) ?_ (by assumption) (fun _ _ _ h => h) ?_
        rotate_left
        · intro w hSw
          go_simp
          with_reducible rfl
        try simp only [Act.put, List.setIfInBounds_toArray, List.set_cons_zero, List.set_cons_succ]
        refine Hand.held_take (i := 5) (d := 137) (v := ?_) rfl rfl (by kernel_rfl) (by kernel_rfl) (by kernel_rfl) (by rfl) ?_ (by assumption) (fun _ _ _ h => h) ?_
        rotate_left
        · intro w hSw
          go_simp
          with_reducible rfl
        try simp only [Act.put, List.setIfInBounds_toArray, List.set_cons_zero, List.set_cons_succ]
        refine Hand.held_take (i := 6) (d := 138) (v := ?_) rfl rfl (by kernel_rfl) (by kernel_rfl) (by kernel_rfl) (by rfl) ?_ (by assumption) (fun _ _ _ h => h) ?_
        rotate_left
        · intro w hSw
          go_simp
          with_reducible rfl
        try simp only [Act.put, List.setIfInBounds_toArray, List.set_cons_zero, List.set_cons_succ]
        refine wpAnyH_ready (rs := [1, 2]) (by kernel_rfl) (by simp) ?_
        refine AllReadyH.cons rfl (fun K hK => ?_) (AllReadyH.cons rfl (fun K hK => ?_) AllReadyH.nil)
        · go_simp
          refine hK.out _ _ ?_ (fun hHeld => ?_)
          · first | exact hc2d | exact cell_stays ((Below.refl _ _).alloc (Nat.le_refl _) _) hc2d | exact cell_stays (hB3.alloc hB3.size _) hc2d | exact cell_stays hB3 hc2d | exact hk4 | exact hk5 | go_keep
          clear hK K
          refine wpAnyH_ready (rs := [2]) (by kernel_rfl) (by simp) ?_
          refine AllReadyH.cons rfl (fun K hK => ?_) AllReadyH.nil
          go_simp
          refine hK.out _ _ ?_ (fun hHeld => ?_)
          · first | exact hc2d | exact cell_stays ((Below.refl _ _).alloc (Nat.le_refl _) _) hc2d | exact cell_stays (hB3.alloc hB3.size _) hc2d | exact cell_stays hB3 hc2d | exact hk4 | exact hk5 | go_keep
          clear hK K
          refine wpAnyH_ready (rs := [7]) (by kernel_rfl) (by simp) ?_
          refine AllReadyH.cons rfl (fun K hK => ?_) AllReadyH.nil
          refine step_append_bytes _ (o := ⟨some 139, _, _, _, _, _⟩) (by rfl) _ _ _ (by rfl) wd.heap.size 5 Try.underlying47 info8 (.slice (some ⟨wd.heap.size, 0, none⟩) 0 0) [] (by rfl) (by exact own_new wd _ [] _ rfl (Nat.zero_le _)) wd.heap.size A3 n3 c3 ys (by rfl) (by exact bytes_keep HR2.out (((Below.refl _ _).alloc (Nat.le_refl _) _).drew)) HLN2.out (by simp) ?_; intro v3 w3 ho3 hg3 _; replace ho3 : Own w3 wd.heap.size 5 v3 ys := ho3; have hB3 : Below wd.heap.size wd w3 := (((Below.refl _ wd).alloc (Nat.le_refl _) _).drew).grown hg3 (by simp) (fun k hk => by simp [Value.ownBlock] at hk; omega); obtain ⟨A5, c5, hv3, _, _, _⟩ := ho3.readsc; subst hv3; have he3 := cell_stays hB3 e4; have he3b := cell_stays ((Below.refl w3.heap.size w3).alloc (Nat.le_refl _) (.cells #[.slice A5 ys.length c5] 47)) he3; have HO3 := Lib.hid ho3; have hb3s := hB3.size; clear hg3 ho3
          refine hK.out _ _ ?_ (fun hHeld => ?_)
          · first | exact hc2d | exact cell_stays ((Below.refl _ _).alloc (Nat.le_refl _) _) hc2d | exact cell_stays (hB3.alloc hB3.size _) hc2d | exact cell_stays hB3 hc2d | exact hk4 | exact hk5 | go_keep
          clear hK K
          refine wpAnyH_ready (rs := [8]) (by kernel_rfl) (by simp) ?_
          refine AllReadyH.cons rfl (fun K hK => ?_) AllReadyH.nil
          go_simp
          refine hK.out _ _ ?_ (fun hHeld => ?_)
          · first | exact hc2d | exact cell_stays ((Below.refl _ _).alloc (Nat.le_refl _) _) hc2d | exact cell_stays (hB3.alloc hB3.size _) hc2d | exact cell_stays hB3 hc2d | exact hk4 | exact hk5 | go_keep
          clear hK K
          refine wpAnyH_ready (rs := [9]) (by kernel_rfl) (by simp) ?_
          refine AllReadyH.cons rfl (fun K hK => ?_) AllReadyH.nil
          refine step_append_slice w3 (o := ⟨some 141, _, _, _, _, _⟩) (by rfl) _ _ _ (by rfl) (ge + 1) 47 Try.underlying58 infoS (Value.slice AB vs2.length cb) vs2 (by rfl) (by exact HK2.out.below hB3) A5 ys.length c5 (by rfl) hvl2 (by omega) ?_; intro v4 w4 ho4 hg4 hl4; obtain ⟨A6, c6, hv4, _, _, _⟩ := ho4.reads; rw [List.length_append, List.length_singleton] at hv4; subst hv4; have hG4 := (World.grownBy_alloc w3 (.cells #[.slice A5 ys.length c5] 47) _).trans hg4; have hne : ∀ q : Nat, q < ge + 1 → some q ≠ (Value.slice AB vs2.length cb).ownBlock := (fun q hq e => by have := HK2.out.block q e.symm; omega); have he4 := hG4.cell he3 (hne ge (by omega)); have hf4 : w4.frozen? ⟨ge, 4, none⟩ = false := (by have hh1 : w4.heap[ge]? = wd.heap[ge]? := (hG4.block ge (by omega) (hne ge (by omega))).trans (hB3.block ge hgd); rw [World.frozen?_of_block (w := wd) hh1]; exact f4); have hk4 := hG4.cell (cell_stays hB3 hc2d) (hne b2 (by omega)); have hk5 := (grown_setCell w4 ⟨ge, 4, none⟩ (Value.slice A6 (vs2.length + 1) c6)).cell hk4 (fun e => by injection e with e; simp at e; omega); have HM := Lib.hid (HF2.out.more2 HX2.out HK2.out HL2.out HI2.out hB3 HO3.out hG4 ho4 hl4); clear ho4 hg4 hl4 hG4
          refine hK.out _ _ ?_ (fun hHeld => ?_)
          · first | exact hc2d | exact cell_stays ((Below.refl _ _).alloc (Nat.le_refl _) _) hc2d | exact cell_stays (hB3.alloc hB3.size _) hc2d | exact cell_stays hB3 hc2d | exact hk4 | exact hk5 | go_keep
          clear hK K
          refine Hand.held_take (i := 10) (d := 142) (v := ?_) rfl rfl (by kernel_rfl) (by kernel_rfl) (by kernel_rfl) (by rfl) ?_ (by assumption) (fun _ _ _ h => h) ?_
          rotate_left
          · intro w hSw
            go_simp
            with_reducible rfl
          try simp only [Act.put, List.setIfInBounds_toArray, List.set_cons_zero, List.set_cons_succ]
          refine wpAnyH_ready (rs := [11]) (by kernel_rfl) (by simp) ?_
          refine AllReadyH.cons rfl (fun K hK => ?_) AllReadyH.nil
          go_simp
          refine hK.out _ _ ?_ (fun hHeld => ?_)
          · exact hk5
          clear hK K
          refine wpAnyH_done (by kernel_rfl) ?_ _
          clear hHeld
          go_wp2
          go_roundw
          case measure => simp [intOf]; omega
          case rel => exact ⟨k + 1, _, _, by go_num, by omega, HM.out⟩
        · go_simp
          refine hK.out _ _ ?_ (fun hHeld => ?_)
          · first | exact hc2d | exact cell_stays ((Below.refl _ _).alloc (Nat.le_refl _) _) hc2d | exact cell_stays (hB3.alloc hB3.size _) hc2d | exact cell_stays hB3 hc2d | exact hk4 | exact hk5 | go_keep
          clear hK K
          refine wpAnyH_ready (rs := [1, 7]) (by kernel_rfl) (by simp) ?_
          refine AllReadyH.cons rfl (fun K hK => ?_) (AllReadyH.cons rfl (fun K hK => ?_) AllReadyH.nil)
          · go_simp
            refine hK.out _ _ ?_ (fun hHeld => ?_)
            · first | exact hc2d | exact cell_stays ((Below.refl _ _).alloc (Nat.le_refl _) _) hc2d | exact cell_stays (hB3.alloc hB3.size _) hc2d | exact cell_stays hB3 hc2d | exact hk4 | exact hk5 | go_keep
            clear hK K
            refine wpAnyH_ready (rs := [7]) (by kernel_rfl) (by simp) ?_
            refine AllReadyH.cons rfl (fun K hK => ?_) AllReadyH.nil
            refine step_append_bytes _ (o := ⟨some 139, _, _, _, _, _⟩) (by rfl) _ _ _ (by rfl) wd.heap.size 5 Try.underlying47 info8 (.slice (some ⟨wd.heap.size, 0, none⟩) 0 0) [] (by rfl) (by exact own_new wd _ [] _ rfl (Nat.zero_le _)) wd.heap.size A3 n3 c3 ys (by rfl) (by exact bytes_keep HR2.out (((Below.refl _ _).alloc (Nat.le_refl _) _).drew)) HLN2.out (by simp) ?_; intro v3 w3 ho3 hg3 _; replace ho3 : Own w3 wd.heap.size 5 v3 ys := ho3; have hB3 : Below wd.heap.size wd w3 := (((Below.refl _ wd).alloc (Nat.le_refl _) _).drew).grown hg3 (by simp) (fun k hk => by simp [Value.ownBlock] at hk; omega); obtain ⟨A5, c5, hv3, _, _, _⟩ := ho3.readsc; subst hv3; have he3 := cell_stays hB3 e4; have he3b := cell_stays ((Below.refl w3.heap.size w3).alloc (Nat.le_refl _) (.cells #[.slice A5 ys.length c5] 47)) he3; have HO3 := Lib.hid ho3; have hb3s := hB3.size; clear hg3 ho3
            refine hK.out _ _ ?_ (fun hHeld => ?_)
            · first | exact hc2d | exact cell_stays ((Below.refl _ _).alloc (Nat.le_refl _) _) hc2d | exact cell_stays (hB3.alloc hB3.size _) hc2d | exact cell_stays hB3 hc2d | exact hk4 | exact hk5 | go_keep
            clear hK K
            refine wpAnyH_ready (rs := [8]) (by kernel_rfl) (by simp) ?_
            refine AllReadyH.cons rfl (fun K hK => ?_) AllReadyH.nil
            go_simp
            refine hK.out _ _ ?_ (fun hHeld => ?_)
            · first | exact hc2d | exact cell_stays ((Below.refl _ _).alloc (Nat.le_refl _) _) hc2d | exact cell_stays (hB3.alloc hB3.size _) hc2d | exact cell_stays hB3 hc2d | exact hk4 | exact hk5 | go_keep
            clear hK K
            refine wpAnyH_ready (rs := [9]) (by kernel_rfl) (by simp) ?_
            refine AllReadyH.cons rfl (fun K hK => ?_) AllReadyH.nil
            refine step_append_slice w3 (o := ⟨some 141, _, _, _, _, _⟩) (by rfl) _ _ _ (by rfl) (ge + 1) 47 Try.underlying58 infoS (Value.slice AB vs2.length cb) vs2 (by rfl) (by exact HK2.out.below hB3) A5 ys.length c5 (by rfl) hvl2 (by omega) ?_; intro v4 w4 ho4 hg4 hl4; obtain ⟨A6, c6, hv4, _, _, _⟩ := ho4.reads; rw [List.length_append, List.length_singleton] at hv4; subst hv4; have hG4 := (World.grownBy_alloc w3 (.cells #[.slice A5 ys.length c5] 47) _).trans hg4; have hne : ∀ q : Nat, q < ge + 1 → some q ≠ (Value.slice AB vs2.length cb).ownBlock := (fun q hq e => by have := HK2.out.block q e.symm; omega); have he4 := hG4.cell he3 (hne ge (by omega)); have hf4 : w4.frozen? ⟨ge, 4, none⟩ = false := (by have hh1 : w4.heap[ge]? = wd.heap[ge]? := (hG4.block ge (by omega) (hne ge (by omega))).trans (hB3.block ge hgd); rw [World.frozen?_of_block (w := wd) hh1]; exact f4); have hk4 := hG4.cell (cell_stays hB3 hc2d) (hne b2 (by omega)); have hk5 := (grown_setCell w4 ⟨ge, 4, none⟩ (Value.slice A6 (vs2.length + 1) c6)).cell hk4 (fun e => by injection e with e; simp at e; omega); have HM := Lib.hid (HF2.out.more2 HX2.out HK2.out HL2.out HI2.out hB3 HO3.out hG4 ho4 hl4); clear ho4 hg4 hl4 hG4
            refine hK.out _ _ ?_ (fun hHeld => ?_)
            · first | exact hc2d | exact cell_stays ((Below.refl _ _).alloc (Nat.le_refl _) _) hc2d | exact cell_stays (hB3.alloc hB3.size _) hc2d | exact cell_stays hB3 hc2d | exact hk4 | exact hk5 | go_keep
            clear hK K
            refine Hand.held_take (i := 10) (d := 142) (v := ?_) rfl rfl (by kernel_rfl) (by kernel_rfl) (by kernel_rfl) (by rfl) ?_ (by assumption) (fun _ _ _ h => h) ?_
            rotate_left
            · intro w hSw
              go_simp
              with_reducible rfl
            try simp only [Act.put, List.setIfInBounds_toArray, List.set_cons_zero, List.set_cons_succ]
            refine wpAnyH_ready (rs := [11]) (by kernel_rfl) (by simp) ?_
            refine AllReadyH.cons rfl (fun K hK => ?_) AllReadyH.nil
            go_simp
            refine hK.out _ _ ?_ (fun hHeld => ?_)
            · exact hk5
            clear hK K
            refine wpAnyH_done (by kernel_rfl) ?_ _
            clear hHeld
            go_wp2
            go_roundw
            case measure => simp [intOf]; omega
            case rel => exact ⟨k + 1, _, _, by go_num, by omega, HM.out⟩
          · refine step_append_bytes _ (o := ⟨some 139, _, _, _, _, _⟩) (by rfl) _ _ _ (by rfl) wd.heap.size 5 Try.underlying47 info8 (.slice (some ⟨wd.heap.size, 0, none⟩) 0 0) [] (by rfl) (by exact own_new wd _ [] _ rfl (Nat.zero_le _)) wd.heap.size A3 n3 c3 ys (by rfl) (by exact bytes_keep HR2.out (((Below.refl _ _).alloc (Nat.le_refl _) _).drew)) HLN2.out (by simp) ?_; intro v3 w3 ho3 hg3 _; replace ho3 : Own w3 wd.heap.size 5 v3 ys := ho3; have hB3 : Below wd.heap.size wd w3 := (((Below.refl _ wd).alloc (Nat.le_refl _) _).drew).grown hg3 (by simp) (fun k hk => by simp [Value.ownBlock] at hk; omega); obtain ⟨A5, c5, hv3, _, _, _⟩ := ho3.readsc; subst hv3; have he3 := cell_stays hB3 e4; have he3b := cell_stays ((Below.refl w3.heap.size w3).alloc (Nat.le_refl _) (.cells #[.slice A5 ys.length c5] 47)) he3; have HO3 := Lib.hid ho3; have hb3s := hB3.size; clear hg3 ho3
            refine hK.out _ _ ?_ (fun hHeld => ?_)
            · first | exact hc2d | exact cell_stays ((Below.refl _ _).alloc (Nat.le_refl _) _) hc2d | exact cell_stays (hB3.alloc hB3.size _) hc2d | exact cell_stays hB3 hc2d | exact hk4 | exact hk5 | go_keep
            clear hK K
            refine wpAnyH_ready (rs := [1, 8]) (by kernel_rfl) (by simp) ?_
            refine AllReadyH.cons rfl (fun K hK => ?_) (AllReadyH.cons rfl (fun K hK => ?_) AllReadyH.nil)
            · go_simp
              refine hK.out _ _ ?_ (fun hHeld => ?_)
              · first | exact hc2d | exact cell_stays ((Below.refl _ _).alloc (Nat.le_refl _) _) hc2d | exact cell_stays (hB3.alloc hB3.size _) hc2d | exact cell_stays hB3 hc2d | exact hk4 | exact hk5 | go_keep
              clear hK K
              refine wpAnyH_ready (rs := [8]) (by kernel_rfl) (by simp) ?_
              refine AllReadyH.cons rfl (fun K hK => ?_) AllReadyH.nil
              go_simp
              refine hK.out _ _ ?_ (fun hHeld => ?_)
              · first | exact hc2d | exact cell_stays ((Below.refl _ _).alloc (Nat.le_refl _) _) hc2d | exact cell_stays (hB3.alloc hB3.size _) hc2d | exact cell_stays hB3 hc2d | exact hk4 | exact hk5 | go_keep
              clear hK K
              refine wpAnyH_ready (rs := [9]) (by kernel_rfl) (by simp) ?_
              refine AllReadyH.cons rfl (fun K hK => ?_) AllReadyH.nil
              refine step_append_slice w3 (o := ⟨some 141, _, _, _, _, _⟩) (by rfl) _ _ _ (by rfl) (ge + 1) 47 Try.underlying58 infoS (Value.slice AB vs2.length cb) vs2 (by rfl) (by exact HK2.out.below hB3) A5 ys.length c5 (by rfl) hvl2 (by omega) ?_; intro v4 w4 ho4 hg4 hl4; obtain ⟨A6, c6, hv4, _, _, _⟩ := ho4.reads; rw [List.length_append, List.length_singleton] at hv4; subst hv4; have hG4 := (World.grownBy_alloc w3 (.cells #[.slice A5 ys.length c5] 47) _).trans hg4; have hne : ∀ q : Nat, q < ge + 1 → some q ≠ (Value.slice AB vs2.length cb).ownBlock := (fun q hq e => by have := HK2.out.block q e.symm; omega); have he4 := hG4.cell he3 (hne ge (by omega)); have hf4 : w4.frozen? ⟨ge, 4, none⟩ = false := (by have hh1 : w4.heap[ge]? = wd.heap[ge]? := (hG4.block ge (by omega) (hne ge (by omega))).trans (hB3.block ge hgd); rw [World.frozen?_of_block (w := wd) hh1]; exact f4); have hk4 := hG4.cell (cell_stays hB3 hc2d) (hne b2 (by omega)); have hk5 := (grown_setCell w4 ⟨ge, 4, none⟩ (Value.slice A6 (vs2.length + 1) c6)).cell hk4 (fun e => by injection e with e; simp at e; omega); have HM := Lib.hid (HF2.out.more2 HX2.out HK2.out HL2.out HI2.out hB3 HO3.out hG4 ho4 hl4); clear ho4 hg4 hl4 hG4
              refine hK.out _ _ ?_ (fun hHeld => ?_)
              · first | exact hc2d | exact cell_stays ((Below.refl _ _).alloc (Nat.le_refl _) _) hc2d | exact cell_stays (hB3.alloc hB3.size _) hc2d | exact cell_stays hB3 hc2d | exact hk4 | exact hk5 | go_keep
              clear hK K
              refine Hand.held_take (i := 10) (d := 142) (v := ?_) rfl rfl (by kernel_rfl) (by kernel_rfl) (by kernel_rfl) (by rfl) ?_ (by assumption) (fun _ _ _ h => h) ?_
              rotate_left
              · intro w hSw
                go_simp
                with_reducible rfl
              try simp only [Act.put, List.setIfInBounds_toArray, List.set_cons_zero, List.set_cons_succ]
              refine wpAnyH_ready (rs := [11]) (by kernel_rfl) (by simp) ?_
              refine AllReadyH.cons rfl (fun K hK => ?_) AllReadyH.nil
              go_simp
              refine hK.out _ _ ?_ (fun hHeld => ?_)
              · exact hk5
              clear hK K
              refine wpAnyH_done (by kernel_rfl) ?_ _
              clear hHeld
              go_wp2
              go_roundw
              case measure => simp [intOf]; omega
              case rel => exact ⟨k + 1, _, _, by go_num, by omega, HM.out⟩
            · go_simp
              refine hK.out _ _ ?_ (fun hHeld => ?_)
              · first | exact hc2d | exact cell_stays ((Below.refl _ _).alloc (Nat.le_refl _) _) hc2d | exact cell_stays (hB3.alloc hB3.size _) hc2d | exact cell_stays hB3 hc2d | exact hk4 | exact hk5 | go_keep
              clear hK K
              refine wpAnyH_ready (rs := [1]) (by kernel_rfl) (by simp) ?_
              refine AllReadyH.cons rfl (fun K hK => ?_) AllReadyH.nil
              go_simp
              refine hK.out _ _ ?_ (fun hHeld => ?_)
              · first | exact hc2d | exact cell_stays ((Below.refl _ _).alloc (Nat.le_refl _) _) hc2d | exact cell_stays (hB3.alloc hB3.size _) hc2d | exact cell_stays hB3 hc2d | exact hk4 | exact hk5 | go_keep
              clear hK K
              refine wpAnyH_ready (rs := [9]) (by kernel_rfl) (by simp) ?_
              refine AllReadyH.cons rfl (fun K hK => ?_) AllReadyH.nil
              refine step_append_slice w3 (o := ⟨some 141, _, _, _, _, _⟩) (by rfl) _ _ _ (by rfl) (ge + 1) 47 Try.underlying58 infoS (Value.slice AB vs2.length cb) vs2 (by rfl) (by exact HK2.out.below hB3) A5 ys.length c5 (by rfl) hvl2 (by omega) ?_; intro v4 w4 ho4 hg4 hl4; obtain ⟨A6, c6, hv4, _, _, _⟩ := ho4.reads; rw [List.length_append, List.length_singleton] at hv4; subst hv4; have hG4 := (World.grownBy_alloc w3 (.cells #[.slice A5 ys.length c5] 47) _).trans hg4; have hne : ∀ q : Nat, q < ge + 1 → some q ≠ (Value.slice AB vs2.length cb).ownBlock := (fun q hq e => by have := HK2.out.block q e.symm; omega); have he4 := hG4.cell he3 (hne ge (by omega)); have hf4 : w4.frozen? ⟨ge, 4, none⟩ = false := (by have hh1 : w4.heap[ge]? = wd.heap[ge]? := (hG4.block ge (by omega) (hne ge (by omega))).trans (hB3.block ge hgd); rw [World.frozen?_of_block (w := wd) hh1]; exact f4); have hk4 := hG4.cell (cell_stays hB3 hc2d) (hne b2 (by omega)); have hk5 := (grown_setCell w4 ⟨ge, 4, none⟩ (Value.slice A6 (vs2.length + 1) c6)).cell hk4 (fun e => by injection e with e; simp at e; omega); have HM := Lib.hid (HF2.out.more2 HX2.out HK2.out HL2.out HI2.out hB3 HO3.out hG4 ho4 hl4); clear ho4 hg4 hl4 hG4
              refine hK.out _ _ ?_ (fun hHeld => ?_)
              · first | exact hc2d | exact cell_stays ((Below.refl _ _).alloc (Nat.le_refl _) _) hc2d | exact cell_stays (hB3.alloc hB3.size _) hc2d | exact cell_stays hB3 hc2d | exact hk4 | exact hk5 | go_keep
              clear hK K
              refine Hand.held_take (i := 10) (d := 142) (v := ?_) rfl rfl (by kernel_rfl) (by kernel_rfl) (by kernel_rfl) (by rfl) ?_ (by assumption) (fun _ _ _ h => h) ?_
              rotate_left
              · intro w hSw
                go_simp
                with_reducible rfl
              try simp only [Act.put, List.setIfInBounds_toArray, List.set_cons_zero, List.set_cons_succ]
              refine wpAnyH_ready (rs := [11]) (by kernel_rfl) (by simp) ?_
              refine AllReadyH.cons rfl (fun K hK => ?_) AllReadyH.nil
              go_simp
              refine hK.out _ _ ?_ (fun hHeld => ?_)
              · exact hk5
              clear hK K
              refine wpAnyH_done (by kernel_rfl) ?_ _
              clear hHeld
              go_wp2
              go_roundw
              case measure => simp [intOf]; omega
              case rel => exact ⟨k + 1, _, _, by go_num, by omega, HM.out⟩
    · obtain rfl : k = m := by omega
      have dk : decide ((k : Int) < G.s) = false := by have := HMM.out; simp; omega
      have hv3 : Ref G wr P _ := HV2.out.below (HGE.out ▸ HF.out.old)
      have HV3 := Lib.hid hv3
      have hgw : ge < wr.heap.size := (Array.getElem?_eq_some_iff.1 HF.out.ev).1
      obtain ⟨e0, e1, e2, e3, e4, _, _⟩ := five_cells HF.out.ev
      have hdl : dat.length = n := HCM.out.dat.1
      have hol : oob.length = n2 := HCM.out.oob.1
      have hk1n : (dat.take k).length = k := by rw [List.length_take]; omega
      have hk2n : (oob.take k).length = k := by rw [List.length_take]; omega
      obtain ⟨Ad, cd, hv1, _, hls1⟩ := NandPkg.Own2.lies HF.out.s1 (fun x hx => by rw [HFIT1.out.2 x (List.mem_of_mem_take hx)]; omega)
      obtain ⟨Ao, co, hv2, _, hls2⟩ := NandPkg.Own2.lies HF.out.s2 (fun x hx => by rw [HFIT2.out.2 x (List.mem_of_mem_take hx)]; omega)
      rw [hk1n] at hv1 hls1
      rw [hk2n] at hv2 hls2
      subst hv1 hv2
      obtain ⟨evs, hlog, htell, hlen⟩ := hv3.log
      obtain ⟨Al, cl, hlv⟩ := hlog.form
      have c6 := hv3.cells.2.2.1
      have f6 := hv3.free 6
      rw [hlv] at c6
      have HLV := Lib.hid hlv
      have hel : evs.length ≤ 1000000000 := by omega
      have hogl : ∀ b, P.own b → b < ge := fun b hb => by rw [HGE.out]; exact HV2.out.lt b hb
      have HOGL := Lib.hid hogl
      have hDD : ∀ b, (P.K b = 7 ∨ (ge + 1 ≤ b ∧ b < wr.heap.size)) → b < wr.heap.size ∧ (Value.slice Al evs.length cl).ownBlock ≠ some b := fun b hb => by
        refine ⟨hb.elim (fun h => Nat.lt_trans (hogl b (own_of P h (by omega))) hgw) (fun h => h.2), fun e => ?_⟩
        have h6 := hv3.apart.l b (by rw [hlv]; exact e)
        have := hogl b (own_of P h6 (by omega))
        omega
      have HDDD := Lib.hid hDD
      have HLOGD : Hid (Log wr (fun b => P.K b = 7 ∨ (ge + 1 ≤ b ∧ b < wr.heap.size)) (.slice Al evs.length cl) evs) := by
        rw [← hlv]
        exact Lib.hid (hlog.keep (fun _ _ => rfl) (fun b h => Or.inl h) (fun _ _ => rfl))
      have HLS1 := Lib.hid (hls1.keep (D' := fun b => P.K b = 7 ∨ (ge + 1 ≤ b ∧ b < wr.heap.size)) (fun b h => Or.inr h) (fun _ _ => rfl))
      have HLS2 := Lib.hid (hls2.keep (D' := fun b => P.K b = 7 ∨ (ge + 1 ≤ b ∧ b < wr.heap.size)) (fun b h => Or.inr h) (fun _ _ => rfl))
      have HTELL : Hid (Tells G (evs ++ [⟨u, b, g, dat.take k, oob.take k⟩]) (lay G u b g dat oob st.rd k)) := by
        refine Lib.hid (Tells.laid HG.out HH.out hg0 hg htell (fun t ht => HINV.out.2 u b g t ht ?_) hmn (by omega))
        rw [← HNX.out]
        exact Int.le_refl _
      have HLEN := Lib.hid hlen
      have hgne : ∀ q : Nat, P.own q → P.K q ≠ 6 → some q ≠ (Value.slice Al evs.length cl).ownBlock := fun q hq hn e => hn (hv3.apart.l q (by rw [hlv]; exact e.symm))
      have hg1k : P.K P.g = 1 := hv3.apart.g
      have hng := hgne P.g (own_of P hg1k (by omega)) (by omega)
      have hnge : some ge ≠ (Value.slice Al evs.length cl).ownBlock := fun e => by have h6 := hv3.apart.l ge (by rw [hlv]; exact e.symm); have := hogl ge (own_of P h6 (by omega)); omega
      have hpg : P.g < ge := hogl P.g (own_of P hg1k (by omega))
      clear hv3 hlog htell hlen hlv hls1 hls2 hDD hogl hgne hdl hol hk1n hk2n
      have c6b := cell_stays ((Below.refl wr.heap.size wr).alloc (Nat.le_refl _) (.cells #[.int .i64 u, .int .i64 b, .int .i64 g, .slice Ad k cd, .slice Ao k co] 104)) c6
      go_upto_region 20 with fail
      refine wp_region_held_drew (S := fun w' => w'.cell? ⟨ge, 0, none⟩ = some (.int .i64 u) ∧ w'.cell? ⟨ge, 1, none⟩ = some (.int .i64 b) ∧ w'.cell? ⟨ge, 2, none⟩ = some (.int .i64 g) ∧ w'.cell? ⟨ge, 3, none⟩ = some (.slice Ad k cd) ∧ w'.cell? ⟨ge, 4, none⟩ = some (.slice Ao k co)) (by kernel_rfl) ?_ (fun hHeld => ?_)
      · exact ⟨e0, e1, e2, e3, e4⟩
      refine Hand.held_take (i := 0) (d := 143) (v := ?_) rfl rfl (by kernel_rfl) (by kernel_rfl) (by kernel_rfl) (by rfl) ?_ (by assumption) (fun _ _ _ h => h) ?_
      rotate_left
      · intro w hSw
        go_simp
        with_reducible rfl
      try simp only [Act.put, List.setIfInBounds_toArray, List.set_cons_zero, List.set_cons_succ]
      refine Hand.held_take (i := 1) (d := 144) (v := ?_) rfl rfl (by kernel_rfl) (by kernel_rfl) (by kernel_rfl) (by rfl) ?_ (by assumption) (fun _ _ _ h => h) ?_
      rotate_left
      · intro w hSw
        go_simp
        with_reducible rfl
      try simp only [Act.put, List.setIfInBounds_toArray, List.set_cons_zero, List.set_cons_succ]
      refine Hand.held_take (i := 2) (d := 145) (v := ?_) rfl rfl (by kernel_rfl) (by kernel_rfl) (by kernel_rfl) (by rfl) ?_ (by assumption) (fun _ _ _ h => h) ?_
      rotate_left
      · intro w hSw
        go_simp
        with_reducible rfl
      try simp only [Act.put, List.setIfInBounds_toArray, List.set_cons_zero, List.set_cons_succ]
      refine Hand.held_take (i := 3) (d := 146) (v := ?_) rfl rfl (by kernel_rfl) (by kernel_rfl) (by kernel_rfl) (by rfl) ?_ (by assumption) (fun _ _ _ h => h) ?_
      rotate_left
      · intro w hSw
        go_simp
        with_reducible rfl
      try simp only [Act.put, List.setIfInBounds_toArray, List.set_cons_zero, List.set_cons_succ]
      refine Hand.held_take (i := 5) (d := 148) (v := ?_) rfl rfl (by kernel_rfl) (by kernel_rfl) (by kernel_rfl) (by rfl) ?_ (by assumption) (fun _ _ _ h => h) ?_
      rotate_left
      · intro w hSw
        go_simp
        with_reducible rfl
      try simp only [Act.put, List.setIfInBounds_toArray, List.set_cons_zero, List.set_cons_succ]
      refine wpAnyH_ready (rs := [4, 6]) (by kernel_rfl) (by simp) ?_
      refine AllReadyH.cons rfl (fun K hK => ?_) (AllReadyH.cons rfl (fun K hK => ?_) AllReadyH.nil)
      · go_simp
        refine hK.out _ _ ?_ (fun hHeld => ?_)
        · first | exact ⟨e0, e1, e2, e3, e4⟩ | exact five_keep ⟨e0, e1, e2, e3, e4⟩ ((Below.refl _ _).alloc (Nat.le_refl _) _) | exact h54 | exact h55 | go_keep
        clear hK K
        refine wpAnyH_ready (rs := [6]) (by kernel_rfl) (by simp) ?_
        refine AllReadyH.cons rfl (fun K hK => ?_) AllReadyH.nil
        go_simp
        refine hK.out _ _ ?_ (fun hHeld => ?_)
        · first | exact ⟨e0, e1, e2, e3, e4⟩ | exact five_keep ⟨e0, e1, e2, e3, e4⟩ ((Below.refl _ _).alloc (Nat.le_refl _) _) | exact h54 | exact h55 | go_keep
        clear hK K
        refine wpAnyH_ready (rs := [7]) (by kernel_rfl) (by simp) ?_
        refine AllReadyH.cons rfl (fun K hK => ?_) AllReadyH.nil
        refine step_append_event wr.drew (o := ⟨some 150, _, _, _, _, _⟩) (by rfl) _ _ (by rfl) (fun b => P.K b = 7 ∨ (ge + 1 ≤ b ∧ b < wr.heap.size)) (.slice Al evs.length cl) evs (by rfl) (by exact HLOGD.out) ⟨u, b, g, dat.take k, oob.take k⟩ Ad k cd Ao k co (by rfl) (by omega) (by omega) (by exact HLS1.out) (by exact HLS2.out) (Nat.le_refl _) (by exact HDDD.out) hel ?_; intro v4 w4 hl4 hg4' hp4'; have hg4 : wr.grownBy w4 (Value.slice Al evs.length cl).ownBlock := ⟨hg4'.os, hg4'.tape, hg4'.output, hg4'.size, hg4'.block⟩; have hp4 : ∀ b, v4.ownBlock = some b → (Value.slice Al evs.length cl).ownBlock = some b ∨ wr.heap.size ≤ b := hp4'; clear hg4' hp4'; obtain ⟨A6, c6', hv4⟩ := hl4.form; rw [List.length_append, List.length_singleton] at hv4; subst hv4; have h54 := five_grown ⟨e0, e1, e2, e3, e4⟩ hg4 hnge; have h55 := five_set h54 (show P.g ≠ ge by omega) 6 (Value.slice A6 (evs.length + 1) c6'); have he6 := hg4.cell c6 hng; have hf6 : w4.frozen? ⟨P.g, 6, none⟩ = false := (by rw [World.frozen?_of_block (w := wr) (hg4.block P.g (by omega) hng)]; exact f6); have HFIN := Lib.hid (HV3.out.logged HOGL.out hgw (by rw [HLV.out]; exact hg4) hl4 HTELL.out (by rw [HLV.out]; exact hp4) (by rw [List.length_append, List.length_singleton]; have := HLEN.out; omega)); have HGR := Lib.hid hg4; clear hl4 hg4 hp4
        refine hK.out _ _ ?_ (fun hHeld => ?_)
        · first | exact ⟨e0, e1, e2, e3, e4⟩ | exact five_keep ⟨e0, e1, e2, e3, e4⟩ ((Below.refl _ _).alloc (Nat.le_refl _) _) | exact h54 | exact h55 | go_keep
        clear hK K
        refine Hand.held_take (i := 8) (d := 151) (v := ?_) rfl rfl (by kernel_rfl) (by kernel_rfl) (by kernel_rfl) (by rfl) ?_ (by assumption) (fun _ _ _ h => h) ?_
        rotate_left
        · intro w hSw
          go_simp
          with_reducible rfl
        try simp only [Act.put, List.setIfInBounds_toArray, List.set_cons_zero, List.set_cons_succ]
        refine Hand.held_take (i := 9) (d := 152) (v := ?_) rfl rfl (by kernel_rfl) (by kernel_rfl) (by kernel_rfl) (by rfl) ?_ (by assumption) (fun _ _ _ h => h) ?_
        rotate_left
        · intro w hSw
          go_simp
          with_reducible rfl
        try simp only [Act.put, List.setIfInBounds_toArray, List.set_cons_zero, List.set_cons_succ]
        refine wpAnyH_ready (rs := [10]) (by kernel_rfl) (by simp) ?_
        refine AllReadyH.cons rfl (fun K hK => ?_) AllReadyH.nil
        go_simp
        refine hK.out _ _ ?_ (fun hHeld => ?_)
        · exact h55
        clear hK K
        refine wpAnyH_done (by kernel_rfl) ?_ _
        clear hHeld
        obtain ⟨P', y1, y2, y3, y4⟩ := HFIN.out
        have HTN : Hid (Turn P.own P'.own w (w4.setCell ⟨P.g, 6, none⟩ (.slice A6 (evs.length + 1) c6'))) := by
          refine Lib.hid (HT2.out.trans ⟨HGR.out.os.trans HF.out.old.os, HGR.out.tape.trans HF.out.old.tape, HGR.out.output.trans HF.out.old.output, Nat.le_trans HF.out.old.size (Nat.le_trans HGR.out.size (grown_setCell _ _ _).size), fun q hq hn => ?_, fun q hq => (y4 q hq).imp id (fun h => by rw [← HGE.out]; exact h)⟩)
          have hqg : q < ge := by rw [HGE.out]; exact hq
          rw [(grown_setCell w4 ⟨P.g, 6, none⟩ _).block q (Nat.lt_of_lt_of_le (by omega) HGR.out.size) (fun e => hn (by injection e with e; rw [e]; exact own_of P hg1k (by omega))), HGR.out.block q (by omega) (fun e => hn (own_of P (HV3.out.apart.l q (by rw [HLV.out]; exact e.symm)) (by omega)))]
          exact HF.out.old.block q hqg
        have HRF : Hid (Ref G (w4.setCell ⟨P.g, 6, none⟩ (.slice A6 (evs.length + 1) c6')) P' { st with nx := upd st.nx j (g + 1), plan := st.plan.tail, many := st.many + 1, rd := lay G u b g dat oob st.rd k }) := by
          rw [← HMQ2.out]
          exact Lib.hid y3
        have HPG := Lib.hid y1
        have HPJ := Lib.hid y2
        clear y1 y2 y3 y4 he6 hf6 h54 h55 c6 c6b f6
        refine at_q ?_
        intro Z hZ
        replace hZ : Z = w4.setCell ⟨P.g, 6, none⟩ (.slice A6 (evs.length + 1) c6') := hZ
        rw [← hZ] at HTN HRF
        clear hZ
        go_wp2
        go_ret
        exact ⟨rfl, P', HPG.out, HRF.out, HTN.out, by rw [HPJ.out]; exact Nat.le_refl _⟩
      · go_simp
        refine hK.out _ _ ?_ (fun hHeld => ?_)
        · first | exact ⟨e0, e1, e2, e3, e4⟩ | exact five_keep ⟨e0, e1, e2, e3, e4⟩ ((Below.refl _ _).alloc (Nat.le_refl _) _) | exact h54 | exact h55 | go_keep
        clear hK K
        refine wpAnyH_ready (rs := [4]) (by kernel_rfl) (by simp) ?_
        refine AllReadyH.cons rfl (fun K hK => ?_) AllReadyH.nil
        go_simp
        refine hK.out _ _ ?_ (fun hHeld => ?_)
        · first | exact ⟨e0, e1, e2, e3, e4⟩ | exact five_keep ⟨e0, e1, e2, e3, e4⟩ ((Below.refl _ _).alloc (Nat.le_refl _) _) | exact h54 | exact h55 | go_keep
        clear hK K
        refine wpAnyH_ready (rs := [7]) (by kernel_rfl) (by simp) ?_
        refine AllReadyH.cons rfl (fun K hK => ?_) AllReadyH.nil
        refine step_append_event wr.drew (o := ⟨some 150, _, _, _, _, _⟩) (by rfl) _ _ (by rfl) (fun b => P.K b = 7 ∨ (ge + 1 ≤ b ∧ b < wr.heap.size)) (.slice Al evs.length cl) evs (by rfl) (by exact HLOGD.out) ⟨u, b, g, dat.take k, oob.take k⟩ Ad k cd Ao k co (by rfl) (by omega) (by omega) (by exact HLS1.out) (by exact HLS2.out) (Nat.le_refl _) (by exact HDDD.out) hel ?_; intro v4 w4 hl4 hg4' hp4'; have hg4 : wr.grownBy w4 (Value.slice Al evs.length cl).ownBlock := ⟨hg4'.os, hg4'.tape, hg4'.output, hg4'.size, hg4'.block⟩; have hp4 : ∀ b, v4.ownBlock = some b → (Value.slice Al evs.length cl).ownBlock = some b ∨ wr.heap.size ≤ b := hp4'; clear hg4' hp4'; obtain ⟨A6, c6', hv4⟩ := hl4.form; rw [List.length_append, List.length_singleton] at hv4; subst hv4; have h54 := five_grown ⟨e0, e1, e2, e3, e4⟩ hg4 hnge; have h55 := five_set h54 (show P.g ≠ ge by omega) 6 (Value.slice A6 (evs.length + 1) c6'); have he6 := hg4.cell c6 hng; have hf6 : w4.frozen? ⟨P.g, 6, none⟩ = false := (by rw [World.frozen?_of_block (w := wr) (hg4.block P.g (by omega) hng)]; exact f6); have HFIN := Lib.hid (HV3.out.logged HOGL.out hgw (by rw [HLV.out]; exact hg4) hl4 HTELL.out (by rw [HLV.out]; exact hp4) (by rw [List.length_append, List.length_singleton]; have := HLEN.out; omega)); have HGR := Lib.hid hg4; clear hl4 hg4 hp4
        refine hK.out _ _ ?_ (fun hHeld => ?_)
        · first | exact ⟨e0, e1, e2, e3, e4⟩ | exact five_keep ⟨e0, e1, e2, e3, e4⟩ ((Below.refl _ _).alloc (Nat.le_refl _) _) | exact h54 | exact h55 | go_keep
        clear hK K
        refine Hand.held_take (i := 8) (d := 151) (v := ?_) rfl rfl (by kernel_rfl) (by kernel_rfl) (by kernel_rfl) (by rfl) ?_ (by assumption) (fun _ _ _ h => h) ?_
        rotate_left
        · intro w hSw
          go_simp
          with_reducible rfl
        try simp only [Act.put, List.setIfInBounds_toArray, List.set_cons_zero, List.set_cons_succ]
        refine Hand.held_take (i := 9) (d := 152) (v := ?_) rfl rfl (by kernel_rfl) (by kernel_rfl) (by kernel_rfl) (by rfl) ?_ (by assumption) (fun _ _ _ h => h) ?_
        rotate_left
        · intro w hSw
          go_simp
          with_reducible rfl
        try simp only [Act.put, List.setIfInBounds_toArray, List.set_cons_zero, List.set_cons_succ]
        refine wpAnyH_ready (rs := [10]) (by kernel_rfl) (by simp) ?_
        refine AllReadyH.cons rfl (fun K hK => ?_) AllReadyH.nil
        go_simp
        refine hK.out _ _ ?_ (fun hHeld => ?_)
        · exact h55
        clear hK K
        refine wpAnyH_done (by kernel_rfl) ?_ _
        clear hHeld
        obtain ⟨P', y1, y2, y3, y4⟩ := HFIN.out
        have HTN : Hid (Turn P.own P'.own w (w4.setCell ⟨P.g, 6, none⟩ (.slice A6 (evs.length + 1) c6'))) := by
          refine Lib.hid (HT2.out.trans ⟨HGR.out.os.trans HF.out.old.os, HGR.out.tape.trans HF.out.old.tape, HGR.out.output.trans HF.out.old.output, Nat.le_trans HF.out.old.size (Nat.le_trans HGR.out.size (grown_setCell _ _ _).size), fun q hq hn => ?_, fun q hq => (y4 q hq).imp id (fun h => by rw [← HGE.out]; exact h)⟩)
          have hqg : q < ge := by rw [HGE.out]; exact hq
          rw [(grown_setCell w4 ⟨P.g, 6, none⟩ _).block q (Nat.lt_of_lt_of_le (by omega) HGR.out.size) (fun e => hn (by injection e with e; rw [e]; exact own_of P hg1k (by omega))), HGR.out.block q (by omega) (fun e => hn (own_of P (HV3.out.apart.l q (by rw [HLV.out]; exact e.symm)) (by omega)))]
          exact HF.out.old.block q hqg
        have HRF : Hid (Ref G (w4.setCell ⟨P.g, 6, none⟩ (.slice A6 (evs.length + 1) c6')) P' { st with nx := upd st.nx j (g + 1), plan := st.plan.tail, many := st.many + 1, rd := lay G u b g dat oob st.rd k }) := by
          rw [← HMQ2.out]
          exact Lib.hid y3
        have HPG := Lib.hid y1
        have HPJ := Lib.hid y2
        clear y1 y2 y3 y4 he6 hf6 h54 h55 c6 c6b f6
        refine at_q ?_
        intro Z hZ
        replace hZ : Z = w4.setCell ⟨P.g, 6, none⟩ (.slice A6 (evs.length + 1) c6') := hZ
        rw [← hZ] at HTN HRF
        clear hZ
        go_wp2
        go_ret
        exact ⟨rfl, P', HPG.out, HRF.out, HTN.out, by rw [HPJ.out]; exact Nat.le_refl _⟩
end

end Go.Proofs.Ytlmdlhfdacmcnaa.NandRef
