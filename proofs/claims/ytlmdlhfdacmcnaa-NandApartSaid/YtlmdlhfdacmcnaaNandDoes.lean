/-
  What the laws of layer 8 do: an op at the program's device and at the document's.
-/
import Derived.Test.YtlmdlhfdacmcnaaNandRefX
import Derived.Test.YtlmdlhfdacmcnaaNandRefN
namespace Go.Proofs.Ytlmdlhfdacmcnaa.NandLaw
open Go.RowKit Nand NandPkg
set_option maxRecDepth 4000

structure Opn where
  op : Int
  u : Int
  b : Int
  p : Int
  n : Int
  odd : Bool
  plan : List UInt8

/-- What an op does. -/
noncomputable def step (G : Shape) (st : St) (o : Opn) : St :=
  if o.op = 0 ∨ o.op = 1 then (st.program G o.u o.b o.p (dats o.n (few G.s)) (oobs o.n o.odd (few G.s))).2
  else if o.op = 2 then (st.erase G o.u o.b).2
  else if o.op = 3 then st
  else if o.op = 4 then (st.retire G o.u o.b).2
  else if o.op = 5 then (if o.plan.length ≤ 100 then { st with plan := o.plan, many := 0 } else st)
  else if o.op = 6 then { st with off := false }
  else st

structure Both (G : Shape) (w : World) (P : NandPkg.Pl) (Q : NandRef.Pl) (st : St) : Prop where
  dev : Dev G w P st
  ref : NandRef.Ref G w Q st
  inv : Inv G st
  sep : ∀ b, P.own b → ¬ Q.own b

theorem Both.below {G : Shape} {w w' : World} {P : NandPkg.Pl} {Q : NandRef.Pl} {st : St} (h : Both G w P Q st) (hb : Below w.heap.size w w') : Both G w' P Q st := ⟨h.dev.below hb, h.ref.below hb, h.inv, h.sep⟩

/-- Another plan for the document's. -/
theorem ref_plan {G : Shape} {w : World} {Q : NandRef.Pl} {st : St} (h : NandRef.Ref G w Q st) {lo gp : Nat} {xs : List UInt8} (hp : PlanPkg.RefAt w lo gp xs 0) (hl : lo ≤ gp) (hn : ∀ b, lo ≤ b → b ≤ gp → ¬ Q.own b) :
    NandRef.Ref G (w.setCell ⟨Q.g, 5, none⟩ (.pointer (some ⟨gp, 0, none⟩))) { Q with lo := lo, gp := gp, K := fun b => if lo ≤ b ∧ b ≤ gp then 5 else Q.K b } { st with plan := xs, many := 0 } := by
  have hg := grown_setCell w ⟨Q.g, 5, none⟩ (.pointer (some ⟨gp, 0, none⟩))
  have h1 := h.head
  have hk : ∀ b, b < w.heap.size → b ≠ Q.g → (w.setCell ⟨Q.g, 5, none⟩ (.pointer (some ⟨gp, 0, none⟩))).heap[b]? = w.heap[b]? := fun b hb hne => hg.block b hb (fun e => hne (by injection e))
  have ho : ∀ b k, Q.K b = k → k ≠ 0 → (if lo ≤ b ∧ b ≤ gp then 5 else Q.K b) = k := fun b k hb hk0 => by
    rw [if_neg (fun hr => hn b hr.1 hr.2 (NandRef.own_of Q hb hk0))]
    exact hb
  have ne : ∀ b k, Q.K b = k → k ≠ 1 → b ≠ Q.g := fun b k hb hk1 e => hk1 (by rw [← hb, e]; exact h.apart.g)
  have a := h.apart
  refine ⟨by simp [World.setCell, Array.getElem?_modify, h1, NandRef.headCells], h.rn.of_block (hk _ h.rn.lt (ne _ _ a.n (by omega))), h.rw.of_block (hk _ h.rw.lt (ne _ _ a.w (by omega))), h.rr.of_block (hk _ h.rr.lt (ne _ _ a.r (by omega))),
    ⟨xs, hp.keep (fun b b1 b2 => hk b (Nat.lt_of_le_of_lt b2 hp.lt) (fun e => hn b b1 b2 (e ▸ NandRef.own_of Q a.g (by omega)))) hl, Int.le_refl _, rfl⟩, ?_,
    ⟨ho _ _ a.g (by omega), ho _ _ a.n (by omega), ho _ _ a.w (by omega), ho _ _ a.r (by omega), fun b b1 b2 => if_pos ⟨b1, b2⟩, fun b hb => ho _ _ (a.l b hb) (by omega), hl⟩, fun b hb => ?_⟩
  · obtain ⟨evs, l1, l2⟩ := h.log
    exact ⟨evs, l1.keep (fun b hb => hk b (h.lt b (NandRef.own_of Q (a.l b hb) (by omega))) (ne _ _ (a.l b hb) (by omega))) (fun b hb => ho b 7 hb (by omega)) (fun b hb => hk b (h.lt b (NandRef.own_of Q hb (by omega))) (ne _ _ hb (by omega))), l2⟩
  · have hb : (if lo ≤ b ∧ b ≤ gp then 5 else Q.K b) ≠ 0 := hb
    refine Nat.lt_of_lt_of_le ?_ hg.size
    by_cases hr : lo ≤ b ∧ b ≤ gp
    · exact Nat.lt_of_le_of_lt hr.2 hp.lt
    · rw [if_neg hr] at hb
      exact h.lt b hb

/-- What is left behind an op: both in the same state, nothing old turned. -/
def After (G : Shape) (B : Nat) (w : World) (P : NandPkg.Pl) (Q : NandRef.Pl) (st : St) (w' : World) : Prop :=
  ∃ P' Q', P'.g = P.g ∧ Q'.g = Q.g ∧ Both G w' P' Q' st ∧ Below B w w' ∧ (∀ b, P'.own b ∨ Q'.own b → B ≤ b) ∧ Q'.J ≤ Q.J + 1

section
variable {G : Shape} {w : World} {P : NandPkg.Pl} {Q : NandRef.Pl} {st : St}

/-- First the program's, then the document's. -/
theorem after_two {B : Nat} {w1 w2 : World} {P' : NandPkg.Pl} {Q' : NandRef.Pl} {s' : St} (h : Both G w P Q st) (hw : B ≤ w.heap.size) (hB : ∀ b, P.own b ∨ Q.own b → B ≤ b) (g1 : P'.g = P.g) (d1 : Dev G w1 P' s') (t1 : Turn P.own P'.own w w1) (g2 : Q'.g = Q.g) (d2 : NandRef.Ref G w2 Q' s') (t2 : Turn Q.own Q'.own w1 w2) (hj : Q'.J ≤ Q.J + 1) (hinv : Inv G s') : After G B w P Q s' w2 := by
  have s1 : ∀ b, Q.own b → ¬ P'.own b := t1.apart h.ref.lt (fun b hq hp => h.sep b hp hq)
  have l1 : ∀ b, P'.own b → b < w1.heap.size := d1.lt
  have d1' : Dev G w2 P' s' := d1.turn t2 (fun b hp hq => s1 b hq hp)
  have s2 : ∀ b, P'.own b → ¬ Q'.own b := t2.apart l1 (fun b hp hq => s1 b hq hp)
  have u1 := t1.up (B := B) (fun b hb => hB b (Or.inl hb)) hw
  have u2 := t2.up (B := B) (fun b hb => hB b (Or.inr hb)) (Nat.le_trans hw t1.size)
  exact ⟨P', Q', g1, g2, ⟨d1', d2, hinv, s2⟩, (t1.below (fun b hb => hB b (Or.inl hb)) hw).trans (t2.below (fun b hb => hB b (Or.inr hb)) (Nat.le_trans hw t1.size)), fun b hb => hb.elim (u1 b) (u2 b), hj⟩

theorem After.from_ {B : Nat} {w0 : World} {s' : St} {w' : World} (hb : Below w0.heap.size w0 w) (hB : B ≤ w0.heap.size) (h : After G B w P Q s' w') : After G B w0 P Q s' w' := by
  obtain ⟨P', Q', h1, h2, h3, h4, h5⟩ := h
  exact ⟨P', Q', h1, h2, h3, (hb.mono hB).trans h4, h5⟩

theorem three_turn {w w' : World} {O O' : Nat → Prop} {bo : Nat} {x y z : Value} (ht : Turn O O' w w') (hn : ¬ O bo) (hl : bo < w.heap.size) (h : w.cell? ⟨bo, 1, none⟩ = some x ∧ w.cell? ⟨bo, 2, none⟩ = some y ∧ w.cell? ⟨bo, 3, none⟩ = some z) : w'.cell? ⟨bo, 1, none⟩ = some x ∧ w'.cell? ⟨bo, 2, none⟩ = some y ∧ w'.cell? ⟨bo, 3, none⟩ = some z := by
  have hk := ht.block bo hl hn
  exact ⟨(World.cell?_of_block (w := w) hk).trans h.1, (World.cell?_of_block (w := w) hk).trans h.2.1, (World.cell?_of_block (w := w) hk).trans h.2.2⟩

theorem seven_keep {w w' : World} {a b c d e f g : Addr} {x0 x1 x2 x3 x4 x5 x6 : Value} (h : w.cell? a = some x0 ∧ w.cell? b = some x1 ∧ w.cell? c = some x2 ∧ w.cell? d = some x3 ∧ w.cell? e = some x4 ∧ w.cell? f = some x5 ∧ w.cell? g = some x6) (hb : Below w.heap.size w w') : w'.cell? a = some x0 ∧ w'.cell? b = some x1 ∧ w'.cell? c = some x2 ∧ w'.cell? d = some x3 ∧ w'.cell? e = some x4 ∧ w'.cell? f = some x5 ∧ w'.cell? g = some x6 :=
  ⟨cell_stays hb h.1, cell_stays hb h.2.1, cell_stays hb h.2.2.1, cell_stays hb h.2.2.2.1, cell_stays hb h.2.2.2.2.1, cell_stays hb h.2.2.2.2.2.1, cell_stays hb h.2.2.2.2.2.2⟩

theorem to_drew {O O' : Nat → Prop} {w w' : World} (h : Turn O O' w.drew w') : Turn O O' w w' := ⟨h.os, h.tape, h.output, h.size, h.block, h.own⟩

set_option maxHeartbeats 3200000 in
theorem does_any (hG : G.Ok) (h : Both G w P Q st) (o : Opn) (Ap : Option Addr) (np cp B : Nat) (hpl : Bytes w B Ap np o.plan) (hw : B ≤ w.heap.size) (hB : ∀ b, P.own b ∨ Q.own b → B ≤ b) (hJ : Q.J ≤ 100000) (hm0 : 0 ≤ st.many) (hm1 : st.many < 1000000000) :
    Calls Try.prog 21 #[ptr P.g, ptr Q.g, .agg #[.int .i64 o.op, .int .i64 o.u, .int .i64 o.b, .int .i64 o.p, .int .i64 o.n, .bool o.odd, .slice Ap np cp]] w fun e w' => e = .returned (.bool true) ∧ After G B w P Q (step G st o) w' := by
  have H := Lib.hid h
  have HG := Lib.hid hG
  have HPL := Lib.hid hpl
  have HUP := Lib.hid hB
  have HW := Lib.hid hw
  have hplen : o.plan.length = np := hpl.1
  have HPLEN := Lib.hid hplen
  obtain ⟨s', hs'⟩ : ∃ s', s' = step G st o := ⟨_, rfl⟩
  rw [← hs']
  have HST := Lib.hid hs'
  clear h hG hpl hB hw hplen hs'
  go_enter Try.func21, Try.ntmps21
  go_upto_region 1 with fail
  refine at_wld ?_
  intro X hX
  have hbX : Below w.heap.size w X := by rw [hX]; exact (Below.refl _ _).alloc (Nat.le_refl _) _
  have c0 : X.cell? ⟨w.heap.size, 0, none⟩ = some (.int .i64 o.op) := by rw [hX]; simp
  have c1 : X.cell? ⟨w.heap.size, 1, none⟩ = some (.int .i64 o.u) := by rw [hX]; simp
  have c2 : X.cell? ⟨w.heap.size, 2, none⟩ = some (.int .i64 o.b) := by rw [hX]; simp
  have c3 : X.cell? ⟨w.heap.size, 3, none⟩ = some (.int .i64 o.p) := by rw [hX]; simp
  have c4 : X.cell? ⟨w.heap.size, 4, none⟩ = some (.int .i64 o.n) := by rw [hX]; simp
  have c5 : X.cell? ⟨w.heap.size, 5, none⟩ = some (.bool o.odd) := by rw [hX]; simp
  have c6 : X.cell? ⟨w.heap.size, 6, none⟩ = some (.slice Ap np cp) := by rw [hX]; simp
  have hlX : w.heap.size < X.heap.size := lt_of_cell c0
  obtain ⟨bo, hbo⟩ : ∃ bo, bo = w.heap.size := ⟨_, rfl⟩
  rw [← hbo] at c0 c1 c2 c3 c4 c5 c6 hlX ⊢
  have HBO := Lib.hid hbo
  have HX := Lib.hid (H.out.below hbX)
  obtain ⟨⟨r0, r1, r2, r3, r4⟩, _⟩ := HX.out.ref.cells
  have HBX := Lib.hid hbX
  clear hX hbX hbo
  go_region_held3 (fun w' => w'.cell? ⟨Q.g, 0, none⟩ = some (.int .i64 G.c) ∧ w'.cell? ⟨Q.g, 1, none⟩ = some (.int .i64 G.l) ∧ w'.cell? ⟨Q.g, 2, none⟩ = some (.int .i64 G.k) ∧ w'.cell? ⟨Q.g, 3, none⟩ = some (.int .i64 G.p) ∧ w'.cell? ⟨Q.g, 4, none⟩ = some (.int .i64 G.s) ∧ w'.cell? ⟨bo, 4, none⟩ = some (.int .i64 o.n) ∧ w'.cell? ⟨bo, 5, none⟩ = some (.bool o.odd))
    (first | exact ⟨r0, r1, r2, r3, r4, c4, c5⟩ | exact seven_keep (by assumption) hb | go_keep)
    (first
      | (go_at_call 26; refine (Sectors_any G.c G.l G.k G.p G.s o.n o.odd X.drew).mono ?_; rintro e Y ⟨v1, v2, rfl, hs1, hs2, hb⟩; have HS1 := Lib.hid hs1; have HS2 := Lib.hid hs2; have HBY : Hid (Below X.heap.size X Y) := Lib.hid ⟨hb.os, hb.tape, hb.output, hb.size, hb.block⟩; clear hs1 hs2))
  rename_i hHeld
  clear hHeld hb r0 r1 r2 r3 r4 c4 c5
  obtain ⟨A, c, A2, c2x, hv1, hv2, hnc, hcame⟩ := came_sect HS1.out HS2.out
  subst hv1 hv2
  replace hcame : Came Y (fun b => X.heap.size ≤ b ∧ b < Y.heap.size) A (few G.s) A2 (few G.s) (dats o.n (few G.s)) (oobs o.n o.odd (few G.s)) := hcame
  have HCA := Lib.hid hcame
  have HY := Lib.hid (HX.out.below HBY.out)
  have HWY : Hid (Below w.heap.size w Y) := Lib.hid (below_then HBX.out HBY.out)
  replace c0 := cell_stays HBY.out c0
  replace c1 := cell_stays HBY.out c1
  replace c2 := cell_stays HBY.out c2
  replace c3 := cell_stays HBY.out c3
  replace c6 := cell_stays HBY.out c6
  have hlY : bo < Y.heap.size := Nat.lt_of_lt_of_le hlX HBY.out.size
  have hPn : ¬ P.own bo := fun ho => by have := H.out.dev.lt bo ho; have := HBO.out; omega
  have hQn : ¬ Q.own bo := fun ho => by have := H.out.ref.lt bo ho; have := HBO.out; omega
  have HDP : Hid (∀ b, (X.heap.size ≤ b ∧ b < Y.heap.size) → ¬ P.own b) := Lib.hid (fun b hb ho => by have := HX.out.dev.lt b ho; omega)
  have HDQ : Hid (∀ b, (X.heap.size ≤ b ∧ b < Y.heap.size) → ¬ Q.own b) := Lib.hid (fun b hb ho => by have := HX.out.ref.lt b ho; omega)
  clear hcame HS1 HS2
  have HBY0 : Hid (B ≤ Y.heap.size) := Lib.hid (Nat.le_trans HW.out HWY.out.size)
  obtain ⟨f, hf⟩ : ∃ f, f = few G.s := ⟨_, rfl⟩
  rw [← hf] at HCA hnc ⊢
  have HFW := Lib.hid hf
  clear hf
  by_cases hop0 : o.op = 0
  · skip
    have ES : Hid (s' = (st.program G o.u o.b o.p (dats o.n f) (oobs o.n o.odd f)).2) := Lib.hid (by rw [HST.out]; unfold step; rw [if_pos (Or.inl hop0), ← HFW.out])
    have t0 : (o.op == 0) = true := by simp [hop0]
    clear hop0
    have HCT := Lib.hid (NandPkg.Program_any (w := Y.drew) HG.out (HY.out.dev.keep (w' := Y.drew) (fun _ _ => rfl) (Nat.le_refl _)) o.u o.b o.p A A2 f f c c2x (dats o.n f) (oobs o.n o.odd f) (HCA.out.below (w' := Y.drew) (Below.refl _ _).drew) HDP.out hnc hm0 (by omega))
    go_wp2_with fail
    go_region_held3 (fun w' => w'.cell? ⟨bo, 1, none⟩ = some (.int .i64 o.u) ∧ w'.cell? ⟨bo, 2, none⟩ = some (.int .i64 o.b) ∧ w'.cell? ⟨bo, 3, none⟩ = some (.int .i64 o.p))
      (first | exact ⟨c1, c2, c3⟩ | exact h3a | exact h3b | go_keep)
      (first
        | (go_at_call 27; refine HCT.out.mono ?_; rintro e w4 ⟨rfl, P', hg', hd4, ht'⟩; have ht : Turn P.own P'.own Y w4 := to_drew ht'; have h3a := three_turn ht hPn hlY ⟨c1, c2, c3⟩; have hl4 : bo < w4.heap.size := Nat.lt_of_lt_of_le hlY ht.size; have HD4 := Lib.hid hd4; have HT4 := Lib.hid ht; clear hd4 ht ht')
        | (go_at_call 45; refine (NandRef.Program_any HG.out HY.out.inv (HY.out.ref.turn HT4.out (fun b hq hp => HY.out.sep b hp hq)) o.u o.b o.p A A2 f f c c2x (dats o.n f) (oobs o.n o.odd f) (HCA.out.turn HT4.out HDP.out) HDQ.out hJ (by omega)).mono ?_; rintro e w5 ⟨rfl, Q', hq', hd5, ht, hj'⟩; have h3b := three_turn ht hQn hl4 h3a; have HD5 := Lib.hid hd5; have HT5 := Lib.hid ht; clear hd5 ht))
    rename_i hHeld
    clear hHeld
    go_wp2
    go_ret
    refine ⟨by first | rfl | simp, ?_⟩
    rw [ES.out]
    exact After.from_ HWY.out HW.out (after_two HY.out HBY0.out HUP.out hg' HD4.out HT4.out hq' HD5.out HT5.out hj' (HY.out.inv.program HG.out o.u o.b o.p _ _))
  by_cases hop1 : o.op = 1
  · skip
    have ES : Hid (s' = (st.program G o.u o.b o.p (dats o.n f) (oobs o.n o.odd f)).2) := Lib.hid (by rw [HST.out]; unfold step; rw [if_pos (Or.inr hop1), ← HFW.out])
    have t0 : (o.op == 0) = false := by simp; omega
    have t1 : (o.op == 1) = true := by simp [hop1]
    clear hop0 hop1
    have HCT := Lib.hid (NandPkg.Program_any (w := Y.drew) HG.out (HY.out.dev.keep (w' := Y.drew) (fun _ _ => rfl) (Nat.le_refl _)) o.u o.b o.p A A2 f f c c2x (dats o.n f) (oobs o.n o.odd f) (HCA.out.below (w' := Y.drew) (Below.refl _ _).drew) HDP.out hnc hm0 (by omega))
    go_wp2_with fail
    go_region_held3 (fun w' => w'.cell? ⟨bo, 1, none⟩ = some (.int .i64 o.u) ∧ w'.cell? ⟨bo, 2, none⟩ = some (.int .i64 o.b) ∧ w'.cell? ⟨bo, 3, none⟩ = some (.int .i64 o.p))
      (first | exact ⟨c1, c2, c3⟩ | exact h3a | exact h3b | go_keep)
      (first
        | (go_at_call 27; refine HCT.out.mono ?_; rintro e w4 ⟨rfl, P', hg', hd4, ht'⟩; have ht : Turn P.own P'.own Y w4 := to_drew ht'; have h3a := three_turn ht hPn hlY ⟨c1, c2, c3⟩; have hl4 : bo < w4.heap.size := Nat.lt_of_lt_of_le hlY ht.size; have HD4 := Lib.hid hd4; have HT4 := Lib.hid ht; clear hd4 ht ht')
        | (go_at_call 45; refine (NandRef.Program_any HG.out HY.out.inv (HY.out.ref.turn HT4.out (fun b hq hp => HY.out.sep b hp hq)) o.u o.b o.p A A2 f f c c2x (dats o.n f) (oobs o.n o.odd f) (HCA.out.turn HT4.out HDP.out) HDQ.out hJ (by omega)).mono ?_; rintro e w5 ⟨rfl, Q', hq', hd5, ht, hj'⟩; have h3b := three_turn ht hQn hl4 h3a; have HD5 := Lib.hid hd5; have HT5 := Lib.hid ht; clear hd5 ht))
    rename_i hHeld
    clear hHeld
    go_wp2
    go_ret
    refine ⟨by first | rfl | simp, ?_⟩
    rw [ES.out]
    exact After.from_ HWY.out HW.out (after_two HY.out HBY0.out HUP.out hg' HD4.out HT4.out hq' HD5.out HT5.out hj' (HY.out.inv.program HG.out o.u o.b o.p _ _))
  by_cases hop2 : o.op = 2
  · skip
    have ES : Hid (s' = (st.erase G o.u o.b).2) := Lib.hid (by rw [HST.out]; unfold step; rw [if_neg (fun h => h.elim hop0 hop1), if_pos hop2])
    have t0 : (o.op == 0) = false := by simp; omega
    have t1 : (o.op == 1) = false := by simp; omega
    have t2 : (o.op == 2) = true := by simp [hop2]
    clear hop0 hop1 hop2
    have HCT := Lib.hid (NandPkg.Erase_any (w := Y.drew) HG.out (HY.out.dev.keep (w' := Y.drew) (fun _ _ => rfl) (Nat.le_refl _)) o.u o.b hm0 (by omega))
    go_wp2_with fail
    go_region_held3 (fun w' => w'.cell? ⟨bo, 1, none⟩ = some (.int .i64 o.u) ∧ w'.cell? ⟨bo, 2, none⟩ = some (.int .i64 o.b) ∧ w'.cell? ⟨bo, 3, none⟩ = some (.int .i64 o.p))
      (first | exact ⟨c1, c2, c3⟩ | exact h3a | exact h3b | go_keep)
      (first
        | (go_at_call 29; refine HCT.out.mono ?_; rintro e w4 ⟨rfl, hd4, ht'⟩; have ht : Turn P.own P.own Y w4 := to_drew ht'; have h3a := three_turn ht hPn hlY ⟨c1, c2, c3⟩; have hl4 : bo < w4.heap.size := Nat.lt_of_lt_of_le hlY ht.size; have HD4 := Lib.hid hd4; have HT4 := Lib.hid ht; clear hd4 ht ht')
        | (go_at_call 46; refine (NandRef.Erase_any HG.out (HY.out.ref.turn HT4.out (fun b hq hp => HY.out.sep b hp hq)) o.u o.b hJ (by omega)).mono ?_; rintro e w5 ⟨rfl, Q', hq', hd5, ht, hj'⟩; have h3b := three_turn ht hQn hl4 h3a; have HD5 := Lib.hid hd5; have HT5 := Lib.hid ht; clear hd5 ht))
    rename_i hHeld
    clear hHeld
    go_wp2
    go_ret
    refine ⟨by first | rfl | simp, ?_⟩
    rw [ES.out]
    exact After.from_ HWY.out HW.out (after_two HY.out HBY0.out HUP.out rfl HD4.out HT4.out hq' HD5.out HT5.out hj' (HY.out.inv.erase HG.out o.u o.b))
  by_cases hop3 : o.op = 3
  · skip
    have ES : Hid (s' = st) := Lib.hid (by rw [HST.out]; unfold step; rw [if_neg (fun h => h.elim hop0 hop1), if_neg hop2, if_pos hop3])
    have t0 : (o.op == 0) = false := by simp; omega
    have t1 : (o.op == 1) = false := by simp; omega
    have t2 : (o.op == 2) = false := by simp; omega
    have t3 : (o.op == 3) = true := by simp [hop3]
    clear hop0 hop1 hop2 hop3
    obtain ⟨r, hr⟩ : ∃ r, r = st.reads G o.p := ⟨_, rfl⟩
    have HC1 := Lib.hid (NandPkg.Read_any HG.out HY.out.dev o.p)
    have HC2 := Lib.hid (fun w4 (hb : Below Y.heap.size Y w4) => NandRef.Read_any HG.out (HY.out.ref.below hb) o.p hJ)
    rw [← hr] at HC1
    rw [← hr] at HC2
    obtain ⟨rx, ry, re⟩ := r
    clear hr
    go_wp2_with fail
    refine HC1.out.mono ?_
    rintro e w4 ⟨va, vb, rfl, ha, hb, hb4⟩
    have d3 := cell_stays hb4 c3
    have HA := Lib.hid ha
    have HBb := Lib.hid hb
    have HB4 := Lib.hid hb4
    obtain ⟨Aa, ca, hva, _⟩ := ha.reads
    obtain ⟨Ab, cb, hvb, _⟩ := hb.reads
    subst hva hvb
    clear ha hb hb4 c3
    dsimp only at HA HBb ⊢
    go_wp2_with fail
    refine (HC2.out w4 HB4.out).mono ?_
    rintro e w5 ⟨vc, vd, rfl, hc, hd, hb5⟩
    have HB5 := Lib.hid (below_then HB4.out hb5)
    have ra := (HA.out.keep (fun q hq => hb5.block q (HA.out.lt q hq))).reads
    have rb := (HBb.out.keep (fun q hq => hb5.block q (HBb.out.lt q hq))).reads
    obtain ⟨Aa', ca', ea, ra⟩ := ra
    obtain ⟨Ab', cb', eb, rb⟩ := rb
    injection ea with ea1 ea2 ea3
    injection eb with eb1 eb2 eb3
    subst ea1 ea3 eb1 eb3
    obtain ⟨Ac, cc, hvc, rc⟩ := hc.reads
    obtain ⟨Ad, cd, hvd, rd⟩ := hd.reads
    subst hvc hvd
    dsimp only at ra rb rc rd ⊢
    have s1 := run_str (P := Try.prog) w5 47 9 5 Try.underlying47 Try.underlying5 Try.underlying9 (c := ca) ra
    have s2 := run_str (P := Try.prog) w5 47 9 5 Try.underlying47 Try.underlying5 Try.underlying9 (c := cb) rb
    have s3 := run_str (P := Try.prog) w5 47 9 5 Try.underlying47 Try.underlying5 Try.underlying9 (c := cc) rc
    have s4 := run_str (P := Try.prog) w5 47 9 5 Try.underlying47 Try.underlying5 Try.underlying9 (c := cd) rd
    have q1 := str_eq (rfl : rx = rx)
    have q2 := str_eq (rfl : ry = ry)
    clear hc hd hb5 ra rb rc rd
    go_wp2
    go_ret
    refine ⟨by first | rfl | simp, ?_⟩
    rw [ES.out]
    exact ⟨P, Q, rfl, rfl, HY.out.below HB5.out, (HWY.out.mono HW.out).trans (HB5.out.mono HBY0.out), HUP.out, Nat.le_succ _⟩
  by_cases hop4 : o.op = 4
  · skip
    have ES : Hid (s' = (st.retire G o.u o.b).2) := Lib.hid (by rw [HST.out]; unfold step; rw [if_neg (fun h => h.elim hop0 hop1), if_neg hop2, if_neg hop3, if_pos hop4])
    have t0 : (o.op == 0) = false := by simp; omega
    have t1 : (o.op == 1) = false := by simp; omega
    have t2 : (o.op == 2) = false := by simp; omega
    have t3 : (o.op == 3) = false := by simp; omega
    have t4 : (o.op == 4) = true := by simp [hop4]
    clear hop0 hop1 hop2 hop3 hop4
    have HCT := Lib.hid (NandPkg.Retire_any (w := Y.drew) HG.out (HY.out.dev.keep (w' := Y.drew) (fun _ _ => rfl) (Nat.le_refl _)) o.u o.b)
    go_wp2_with fail
    go_region_held3 (fun w' => w'.cell? ⟨bo, 1, none⟩ = some (.int .i64 o.u) ∧ w'.cell? ⟨bo, 2, none⟩ = some (.int .i64 o.b) ∧ w'.cell? ⟨bo, 3, none⟩ = some (.int .i64 o.p))
      (first | exact ⟨c1, c2, c3⟩ | exact h3a | exact h3b | go_keep)
      (first
        | (go_at_call 30; refine HCT.out.mono ?_; rintro e w4 ⟨rfl, hd4, ht'⟩; have ht : Turn P.own P.own Y w4 := to_drew ht'; have h3a := three_turn ht hPn hlY ⟨c1, c2, c3⟩; have hl4 : bo < w4.heap.size := Nat.lt_of_lt_of_le hlY ht.size; have HD4 := Lib.hid hd4; have HT4 := Lib.hid ht; clear hd4 ht ht')
        | (go_at_call 48; refine (NandRef.Retire_any HG.out (HY.out.ref.turn HT4.out (fun b hq hp => HY.out.sep b hp hq)) o.u o.b).mono ?_; rintro e w5 ⟨rfl, hd5, ht⟩; have h3b := three_turn ht hQn hl4 h3a; have HD5 := Lib.hid hd5; have HT5 := Lib.hid ht; clear hd5 ht))
    rename_i hHeld
    clear hHeld
    go_wp2
    go_ret
    refine ⟨by first | rfl | simp, ?_⟩
    rw [ES.out]
    exact After.from_ HWY.out HW.out (after_two HY.out HBY0.out HUP.out rfl HD4.out HT4.out rfl HD5.out HT5.out (Nat.le_succ _) (HY.out.inv.retire o.u o.b))
  by_cases hop5 : o.op = 5
  · skip
    have ES : Hid (s' = if o.plan.length ≤ 100 then { st with plan := o.plan, many := 0 } else st) := Lib.hid (by rw [HST.out]; unfold step; rw [if_neg (fun h => h.elim hop0 hop1), if_neg hop2, if_neg hop3, if_neg hop4, if_pos hop5])
    have t0 : (o.op == 0) = false := by simp; omega
    have t1 : (o.op == 1) = false := by simp; omega
    have t2 : (o.op == 2) = false := by simp; omega
    have t3 : (o.op == 3) = false := by simp; omega
    have t4 : (o.op == 4) = false := by simp; omega
    have t5 : (o.op == 5) = true := by simp [hop5]
    clear hop0 hop1 hop2 hop3 hop4 hop5
    by_cases hpn : np ≤ 100
    · replace ES : Hid (s' = { st with plan := o.plan, many := 0 }) := Lib.hid (by rw [ES.out, if_pos (by rw [HPLEN.out]; exact hpn)])
      have tn : decide ((np : Int) ≤ 100) = true := by simp; omega
      have HBYp := Lib.hid (bytes_keep HPL.out (HWY.out.mono HW.out))
      have HC1 := Lib.hid (NandPkg.Plan_any HY.out.dev Ap np cp B o.plan (by omega) HBYp.out HBY0.out)
      go_wp2_with fail
      refine HC1.out.mono ?_
      rintro e w4 ⟨rfl, P', hg', hd4, ht⟩
      have hb4 : Below B Y w4 := ht.below (fun b hb => HUP.out b (Or.inl hb)) HBY0.out
      have hk6 : w4.cell? ⟨bo, 6, none⟩ = some (.slice Ap np cp) := (World.cell?_of_block (w := Y) (ht.block bo hlY hPn)).trans c6
      have HRY : Hid (NandRef.Ref G w4 Q st) := Lib.hid (HY.out.ref.turn ht (fun b hq hp => HY.out.sep b hp hq))
      have HC2 := Lib.hid (PlanPkg.refNew_any Ap np cp B o.plan w4 (by omega) (bytes_keep HBYp.out hb4) (Nat.le_trans HBY0.out ht.size))
      have HD4 := Lib.hid hd4
      have HT4 := Lib.hid ht
      clear hd4 ht hb4
      go_wp2_with fail
      refine HC2.out.mono ?_
      rintro e w5 ⟨gq, rfl, hgq, hpq, hb5⟩
      have hr5 := HRY.out.below hb5
      have k5 := hr5.cells.2.1
      have f5 := hr5.free 5
      have HR5 := Lib.hid hr5
      have HPQ := Lib.hid hpq
      have HGQ := Lib.hid hgq
      have HB5 := Lib.hid hb5
      clear hr5 hpq hgq hb5
      go_wp2
      go_ret
      have hnq : ∀ b, w4.heap.size ≤ b → b ≤ gq → ¬ Q.own b := fun b h1 _ ho => by have := HRY.out.lt b ho; omega
      have href := ref_plan HR5.out HPQ.out HGQ.out hnq
      refine ⟨rfl, ?_⟩
      rw [ES.out]
      refine After.from_ HWY.out HW.out (after_two (Q' := { Q with lo := w4.heap.size, gp := gq, K := fun b => if w4.heap.size ≤ b ∧ b ≤ gq then 5 else Q.K b }) HY.out HBY0.out HUP.out hg' HD4.out HT4.out rfl href ?_ (Nat.le_succ _) HY.out.inv)
      refine ((Turn.of_below _ HB5.out).trans (Turn.of_grown (grown_setCell _ _ _) (NandRef.own_of Q HR5.out.apart.g (by omega)))).widen fun b hb => ?_
      have hb : (if w4.heap.size ≤ b ∧ b ≤ gq then 5 else Q.K b) ≠ 0 := hb
      by_cases hr : w4.heap.size ≤ b ∧ b ≤ gq
      · exact Or.inr hr.1
      · rw [if_neg hr] at hb
        exact Or.inl hb
    · replace ES : Hid (s' = st) := Lib.hid (by rw [ES.out, if_neg (by rw [HPLEN.out]; exact hpn)])
      have tn : decide ((np : Int) ≤ 100) = false := by simp; omega
      go_wp2
      go_ret
      refine ⟨rfl, ?_⟩
      rw [ES.out]
      exact ⟨P, Q, rfl, rfl, HY.out, HWY.out.mono HW.out, HUP.out, Nat.le_succ _⟩
  by_cases hop6 : o.op = 6
  · skip
    have ES : Hid (s' = { st with off := false }) := Lib.hid (by rw [HST.out]; unfold step; rw [if_neg (fun h => h.elim hop0 hop1), if_neg hop2, if_neg hop3, if_neg hop4, if_neg hop5, if_pos hop6])
    have t0 : (o.op == 0) = false := by simp; omega
    have t1 : (o.op == 1) = false := by simp; omega
    have t2 : (o.op == 2) = false := by simp; omega
    have t3 : (o.op == 3) = false := by simp; omega
    have t4 : (o.op == 4) = false := by simp; omega
    have t5 : (o.op == 5) = false := by simp; omega
    have t6 : (o.op == 6) = true := by simp [hop6]
    clear hop0 hop1 hop2 hop3 hop4 hop5 hop6
    go_wp2_with fail
    refine (Power_any HY.out.dev).mono ?_
    rintro e w4 ⟨rfl, hd4, ht⟩
    have hr4 : NandRef.Ref G w4 Q st := HY.out.ref.turn ht (fun b hq hp => HY.out.sep b hp hq)
    have k10 := hr4.cells.2.2.2.2.2.2.1
    have f10 := hr4.free 10
    have HD4 := Lib.hid hd4
    have HT4 := Lib.hid ht
    have HR4 := Lib.hid hr4
    clear hd4 ht hr4
    go_wp2
    go_ret
    refine ⟨rfl, ?_⟩
    rw [ES.out]
    exact After.from_ HWY.out HW.out (after_two HY.out HBY0.out HUP.out rfl HD4.out HT4.out rfl (HR4.out.set_off false) (Turn.of_grown (grown_setCell _ _ _) (NandRef.own_of Q HR4.out.apart.g (by omega))) (Nat.le_succ _) HY.out.inv)
  have ES : Hid (s' = st) := Lib.hid (by rw [HST.out]; unfold step; rw [if_neg (fun h => h.elim hop0 hop1), if_neg hop2, if_neg hop3, if_neg hop4, if_neg hop5, if_neg hop6])
  have t0 : (o.op == 0) = false := by simp; omega
  have t1 : (o.op == 1) = false := by simp; omega
  have t2 : (o.op == 2) = false := by simp; omega
  have t3 : (o.op == 3) = false := by simp; omega
  have t4 : (o.op == 4) = false := by simp; omega
  have t5 : (o.op == 5) = false := by simp; omega
  have t6 : (o.op == 6) = false := by simp; omega
  clear hop0 hop1 hop2 hop3 hop4 hop5 hop6
  go_wp2
  go_ret
  refine ⟨rfl, ?_⟩
  rw [ES.out]
  exact ⟨P, Q, rfl, rfl, HY.out, HWY.out.mono HW.out, HUP.out, Nat.le_succ _⟩
end

end Go.Proofs.Ytlmdlhfdacmcnaa.NandLaw
