/-
  What package l2p does: Get, store.
-/
import Derived.Test.YtpheblblkkclbaaL2pMap
namespace Go.Proofs.Ytpheblblkkclbaa.L2pPkg
open Go.RowKit Go.ChangeShapes L2p
open Nand (Shape)
set_option maxRecDepth 4000

section
variable {G : Shape} {n : Nat} {w w' : World} {P : Pl} {st : St} {f1 f2 : Nat → List Value}

def there (lba : Int) (n : Nat) : Prop := 0 ≤ lba ∧ lba < n
instance (lba : Int) (n : Nat) : Decidable (there lba n) := by unfold there; infer_instance
def getE (st : St) (n : Nat) (lba : Int) : Ent := if there lba n then st lba.toNat else ⟨0, 0, 0⟩
def getK (n : Nat) (lba : Int) : Int := if there lba n then 0 else 2

theorem hasE_yes (h : Mp G n w P st) {lba : Int} (ht : there lba n) :
    Calls Try.prog 29 #[ptr P.g 5, .int .i64 lba] w fun x w' => x = .returned (.bool true) ∧ w' = w := by
  have := hasE_any P.g 5 n lba w h.q.cE.1
  rwa [show (decide (0 ≤ lba) && decide (lba < (n : Int))) = true by unfold there at ht; simpa using ht] at this

theorem hasE_no (h : Mp G n w P st) {lba : Int} (ht : ¬ there lba n) :
    Calls Try.prog 29 #[ptr P.g 5, .int .i64 lba] w fun x w' => x = .returned (.bool false) ∧ w' = w := by
  have := hasE_any P.g 5 n lba w h.q.cE.1
  rwa [show (decide (0 ≤ lba) && decide (lba < (n : Int))) = false by unfold there at ht; simpa using ht] at this

theorem Get_any (h : Mp G n w P st) (lba : Int) :
    Calls Try.prog 11 #[ptr P.g 0, .int .i64 lba] w fun x w' => x = .returned (.tuple #[entV (getE st n lba), .int .i64 (getK n lba)]) ∧ Below w.heap.size w w' := by
  obtain ⟨ob, hob⟩ : ∃ ob, ob = Obj.cells #[.int .i64 0, .int .i64 0, .int .i64 0] 30 := ⟨_, rfl⟩
  have hX := (Below.refl w.heap.size w).alloc (Nat.le_refl _) ob
  have c0 : (w.alloc ob).cell? ⟨w.heap.size, 0, none⟩ = some (.int .i64 0) := by rw [hob]; simp [World.cell?_alloc_at]
  have c1 : (w.alloc ob).cell? ⟨w.heap.size, 1, none⟩ = some (.int .i64 0) := by rw [hob]; simp [World.cell?_alloc_at]
  have c2 : (w.alloc ob).cell? ⟨w.heap.size, 2, none⟩ = some (.int .i64 0) := by rw [hob]; simp [World.cell?_alloc_at]
  have z0 : (w.alloc ob).frozen? ⟨w.heap.size, 0, none⟩ = false := by rw [hob]; exact World.frozen?_alloc_at _ _ _ _ rfl
  have z1 : (w.alloc ob).frozen? ⟨w.heap.size, 1, none⟩ = false := by rw [hob]; exact World.frozen?_alloc_at _ _ _ _ rfl
  have z2 : (w.alloc ob).frozen? ⟨w.heap.size, 2, none⟩ = false := by rw [hob]; exact World.frozen?_alloc_at _ _ _ _ rfl
  have hh := h.below hX
  have HX := Lib.hid hX
  unfold getE getK
  by_cases ht : there lba n
  · rw [if_pos ht, if_pos ht]
    obtain ⟨i, rfl⟩ := Int.eq_ofNat_of_zero_le ht.1
    have hi : i < n := by have := ht.2; omega
    have HH := Lib.hid (hasE_yes hh ht)
    have HG := Lib.hid (getE_is hh i hi)
    rw [show ((i : Int).toNat) = i from rfl]
    generalize st i = E at HG ⊢
    have hlt : w.heap.size < (w.alloc ob).heap.size := by simp
    clear h hh hX ht
    subst hob
    go_enter Try.func11, Try.ntmps11
    go_wp2_with fail
    refine HH.out.mono ?_
    rintro e w2 ⟨rfl, hw⟩; subst w2
    go_wp2_with fail
    refine HG.out.mono ?_
    rintro e w2 ⟨rfl, hb⟩
    replace c0 := cell_stays hb c0
    replace c1 := cell_stays hb c1
    replace c2 := cell_stays hb c2
    replace z0 := (hb.frozen (p := ⟨w.heap.size, 0, none⟩) hlt).trans z0
    replace z1 := (hb.frozen (p := ⟨w.heap.size, 1, none⟩) hlt).trans z1
    replace z2 := (hb.frozen (p := ⟨w.heap.size, 2, none⟩) hlt).trans z2
    have HB := Lib.hid (below_then HX.out hb)
    clear hb
    unfold entV
    go_wp2
    refine bodyPost_ret (v := .tuple #[entV E, .int .i64 0]) ?_ rfl ⟨rfl, ((HB.out.setCell (Nat.le_refl _) _).setCell (Nat.le_refl _) _).setCell (Nat.le_refl _) _⟩
    simp [results, Try.results11, go_sem, c0, c1, c2, entV]
  · rw [if_neg ht, if_neg ht]
    have HH := Lib.hid (hasE_no hh ht)
    clear h hh hX ht
    subst hob
    go_enter Try.func11, Try.ntmps11
    go_wp2_with fail
    refine HH.out.mono ?_
    rintro e w2 ⟨rfl, hw⟩; subst w2
    go_wp2
    refine bodyPost_ret (v := .tuple #[entV ⟨0, 0, 0⟩, .int .i64 2]) ?_ rfl ⟨rfl, HX.out⟩
    simp [results, Try.results11, go_sem, entV]

/-- The owner of an address, anew. -/
theorem own_put (h : Mq G n w P f1 f2) (hN : G.N ≤ 65536) (b : Nat) (hb : (b : Int) < G.N) (z : Int) :
    Calls Try.prog 73 #[ptr P.g 10, .int .i64 (b : Int), .int .i64 z] w fun x w' => x = .returned (.tuple #[]) ∧ ∃ P' : Pl, P'.g = P.g ∧ Mq G n w' P' f1 (fun k => if k = b then [.int .i64 z] else f2 k) ∧ Turn (P.own n G.N.toNat) (P'.own n G.N.toNat) w w' := by
  obtain ⟨_, h2, h3⟩ := h.cI
  have h64 : shn G.N.toNat ≤ 1024 := by unfold shn; omega
  refine (putI_any P.g 10 P.LI (shn G.N.toNat) P.aI (-1) z f2 b w h2 h3 h.own h64 (shn_bd (show b < G.N.toNat by omega))).mono ?_
  rintro e w2 ⟨a', rfl, hs, ht⟩
  have := h.turnI hs ht
  exact ⟨rfl, { P with aI := a' }, rfl, this.1, this.2⟩

theorem ent_put (h : Mq G n w P f1 f2) (hn : n ≤ 4096) (i : Nat) (hi : i < n) (e : Ent) :
    Calls Try.prog 74 #[ptr P.g 5, .int .i64 (i : Int), entV e] w fun x w' => x = .returned (.tuple #[]) ∧ ∃ P' : Pl, P'.g = P.g ∧ Mq G n w' P' (fun k => if k = i then entL e else f1 k) f2 ∧ Turn (P.own n G.N.toNat) (P'.own n G.N.toNat) w w' := by
  obtain ⟨_, h2, h3⟩ := h.cE
  have h64 : shn n ≤ 1024 := by unfold shn; omega
  refine (putE_any P.g 5 P.LE (shn n) P.aE (-1) 0 0 e.a e.s e.k f1 i w h2 h3 h.ent h64 (shn_bd hi)).mono ?_
  rintro e w2 ⟨a', rfl, hs, ht⟩
  have := h.turnE hs ht
  exact ⟨rfl, { P with aE := a' }, rfl, this.1, this.2⟩

theorem Mq.congr (h : Mq G n w P f1 f2) {g1 g2 : Nat → List Value} (e1 : ∀ i, g1 i = f1 i) (e2 : ∀ b : Nat, (b : Int) < shn G.N.toNat * 64 → g2 b = f2 b) : Mq G n w P g1 g2 :=
  ⟨h.head, h.ent.congr fun i _ => e1 i, h.own.congr fun b hb => e2 b (by omega), h.apart, h.headE, h.headI⟩

theorem Mq.drew (h : Mq G n w P f1 f2) : Mq G n w.drew P f1 f2 := h.below (Below.refl _ _).drew

theorem entF_put (n : Nat) (st : St) {i : Nat} (hi : i < n) (e : Ent) (k : Nat) : entF n (put st i e) k = if k = i then entL e else entF n st k := by
  unfold entF
  by_cases h : k = i
  · rw [h, if_pos hi, if_pos rfl, put_same]
  · rw [if_neg h, put_other h]

set_option maxHeartbeats 1000000 in
theorem store_any (h : Mp G n w P st) (hN : G.N ≤ 65536) (i : Nat) (hi : i < n) (e : Ent) (hr : right G.N e) (hf : ∀ j, j < n → j ≠ i → (st j).a ≠ e.a) :
    Calls Try.prog 50 #[ptr P.g 0, .int .i64 (i : Int), entV e] w fun x w' => x = .returned (.tuple #[]) ∧ ∃ P' : Pl, P'.g = P.g ∧ Mp G n w' P' (put st i e) ∧ Turn (P.own n G.N.toNat) (P'.own n G.N.toNat) w w' := by
  have HWP := Lib.hid (fun b : Nat => who_put h.inv hi hr hf (b := (b : Int)) (by omega))
  have HIV := Lib.hid (h.inv.put hr hf)
  have hN1 := hr.2.1
  obtain ⟨ea, es, ek⟩ := e
  obtain ⟨eb, rfl⟩ : ∃ eb : Nat, ea = eb := Int.eq_ofNat_of_zero_le hr.1
  have hN1 : (eb : Int) < G.N := hr.2.1
  clear hr hf
  obtain ⟨ob, hob⟩ : ∃ ob, ob = Obj.cells #[.int .i64 (eb : Int), .int .i64 es, .int .i64 ek] 30 := ⟨_, rfl⟩
  have hX := (Below.refl w.heap.size w).alloc (Nat.le_refl _) ob
  have c0 : (w.alloc ob).cell? ⟨w.heap.size, 0, none⟩ = some (.int .i64 (eb : Int)) := by rw [hob]; simp [World.cell?_alloc_at]
  have c1 : (w.alloc ob).cell? ⟨w.heap.size, 1, none⟩ = some (.int .i64 es) := by rw [hob]; simp [World.cell?_alloc_at]
  have c2 : (w.alloc ob).cell? ⟨w.heap.size, 2, none⟩ = some (.int .i64 ek) := by rw [hob]; simp [World.cell?_alloc_at]
  have HNO := Lib.hid (show ¬ P.own n G.N.toNat w.heap.size from fun ho => by have := h.lt _ ho; omega)
  have hh := h.below hX
  have HT := Lib.hid (Turn.of_below (P.own n G.N.toNat) hX)
  have HG := Lib.hid (getE_is hh i hi)
  have HH := Lib.hid hh
  have hn0 := h.n0
  have hn1 := h.n1
  rcases h.inv.a_bd hi with ⟨hm, hoff⟩ | ⟨hm0, hm1, hm2⟩
  · have HM0 := Lib.hid hm
    generalize hst : st i = E at HG hm ⊢
    have HST := Lib.hid hst
    clear h hh hX hoff hst
    subst hob
    go_enter Try.func50, Try.ntmps50
    unfold entV
    go_wp2_with fail
    refine HG.out.mono ?_
    rintro e w2 ⟨rfl, hb⟩
    unfold entV
    have hh2 := (HH.out.below hb).alloc (.cells #[.int .i64 (-1), .int .i64 E.s, .int .i64 E.k] 30)
    have hx := hb.alloc hb.size (.cells #[.int .i64 (-1), .int .i64 E.s, .int .i64 E.k] 30)
    replace c0 := cell_stays hx c0
    replace c1 := cell_stays hx c1
    replace c2 := cell_stays hx c2
    have HT2 := Lib.hid (HT.out.trans (Turn.of_below _ hx))
    have HM := Lib.hid (isMapped_any ⟨-1, E.s, E.k⟩ (w2.alloc (.cells #[.int .i64 (-1), .int .i64 E.s, .int .i64 E.k] 30)))
    have HH2 := Lib.hid hh2
    clear hb hx hh2 HG HH HT
    go_wp2_with fail
    refine HM.out.mono ?_
    rintro e w3 ⟨rfl, hb⟩
    replace c0 := cell_stays hb c0
    replace c1 := cell_stays hb c1
    replace c2 := cell_stays hb c2
    replace HH2 := Lib.hid (HH2.out.below hb)
    replace HT2 := Lib.hid (HT2.out.trans (Turn.of_below _ hb))
    clear hb HM
    have hbox : w.heap.size < w3.heap.size := World.block_lt_of_cell? _ _ c0
    have HP := Lib.hid (ent_put HH2.out.drew.q HH2.out.n1 i hi ⟨eb, es, ek⟩)
    go_wp2_with fail
    go_region_with (first
      | (go_at_call 74; refine HP.out.mono ?_; rintro e w4 ⟨rfl, P1, hg1, hq1, ht1⟩))
    all_goals
      have d0 : w4.cell? ⟨w.heap.size, 0, none⟩ = some (.int .i64 (eb : Int)) := (World.cell?_of_block (w := w3.drew) (ht1.block w.heap.size hbox HNO.out)).trans c0
      have HP2 := Lib.hid (own_put hq1.drew hN eb hN1 (i : Int))
      rw [hg1] at HP2
      have HQ1 := Lib.hid hq1
      have HT1 := Lib.hid ht1
      have HG1 := Lib.hid hg1
      clear c0 c1 c2 hq1 ht1 hg1
      go_wp2_with fail
      go_region_with (first
        | (go_at_call 73; refine HP2.out.mono ?_; rintro e w5 ⟨rfl, P2, hg2, hq2, ht2⟩))
    go_end0
    refine ⟨rfl, P2, hg2, ⟨hq2.congr (entF_put n st hi _) fun b _ => ?_, HIV.out, hn0, hn1⟩, (HT2.out.trans (Turn.of_below _ (Below.refl _ _).drew)).trans (HT1.out.trans ((Turn.of_below _ (Below.refl _ _).drew).trans ht2))⟩
    unfold ownF
    rw [HWP.out b, HM0.out]
    by_cases hbe : b = eb
    · rw [if_pos hbe, if_pos (by omega)]
    · rw [if_neg hbe, if_neg (by omega), if_neg (by omega)]
  · obtain ⟨ob', hob'⟩ : ∃ ob' : Nat, (st i).a = ob' := Int.eq_ofNat_of_zero_le hm0
    have HM0 := Lib.hid hob'
    rw [hob'] at hm1
    generalize hst : st i = E at HG hob' ⊢
    obtain ⟨Ea, Es, Ek⟩ := E
    replace hob' : Ea = ob' := hob'
    subst hob'
    have HST := Lib.hid hst
    clear h hh hX hm0 hm2 hst
    subst hob
    go_enter Try.func50, Try.ntmps50
    unfold entV
    go_wp2_with fail
    refine HG.out.mono ?_
    rintro e w2 ⟨rfl, hb⟩
    unfold entV
    have hh2 := (HH.out.below hb).alloc (.cells #[.int .i64 (ob' : Int), .int .i64 Es, .int .i64 Ek] 30)
    have hx := hb.alloc hb.size (.cells #[.int .i64 (ob' : Int), .int .i64 Es, .int .i64 Ek] 30)
    have q0 : (w2.alloc (.cells #[.int .i64 (ob' : Int), .int .i64 Es, .int .i64 Ek] 30)).cell? ⟨w2.heap.size, 0, none⟩ = some (.int .i64 (ob' : Int)) := by simp [World.cell?_alloc_at]
    replace c0 := cell_stays hx c0
    replace c1 := cell_stays hx c1
    replace c2 := cell_stays hx c2
    have HNQ := Lib.hid (show ¬ P.own n G.N.toNat w2.heap.size from fun ho => by have := (HH.out.below hb).lt _ ho; omega)
    have HT2 := Lib.hid (HT.out.trans (Turn.of_below _ hx))
    have HM := Lib.hid (isMapped_any ⟨ob', Es, Ek⟩ (w2.alloc (.cells #[.int .i64 (ob' : Int), .int .i64 Es, .int .i64 Ek] 30)))
    rw [show decide ((⟨ob', Es, Ek⟩ : Ent).a ≠ -1) = true from decide_eq_true (by show (ob' : Int) ≠ -1; omega)] at HM
    have HH2 := Lib.hid hh2
    clear hb hx hh2 HG HH HT
    go_wp2_with fail
    refine HM.out.mono ?_
    rintro e w3 ⟨rfl, hb⟩
    replace c0 := cell_stays hb c0
    replace c1 := cell_stays hb c1
    replace c2 := cell_stays hb c2
    replace q0 := cell_stays hb q0
    replace HH2 := Lib.hid (HH2.out.below hb)
    replace HT2 := Lib.hid (HT2.out.trans (Turn.of_below _ hb))
    clear hb HM
    have hbox : w.heap.size < w3.heap.size := World.block_lt_of_cell? _ _ c0
    have HPO := Lib.hid (own_put HH2.out.drew.q hN ob' hm1 (-1))
    go_wp2_with fail
    go_region_with (first
      | (go_at_call 73; refine HPO.out.mono ?_; rintro e w4 ⟨rfl, P0, hg0, hq0, ht0⟩))
    have e0 : w4.cell? ⟨w.heap.size, 0, none⟩ = some (.int .i64 (eb : Int)) := (World.cell?_of_block (w := w3.drew) (ht0.block w.heap.size hbox HNO.out)).trans c0
    have e1 : w4.cell? ⟨w.heap.size, 1, none⟩ = some (.int .i64 es) := (World.cell?_of_block (w := w3.drew) (ht0.block w.heap.size hbox HNO.out)).trans c1
    have e2 : w4.cell? ⟨w.heap.size, 2, none⟩ = some (.int .i64 ek) := (World.cell?_of_block (w := w3.drew) (ht0.block w.heap.size hbox HNO.out)).trans c2
    have HNO0 := Lib.hid (show ¬ P0.own n G.N.toNat w.heap.size from fun ho => (ht0.own _ ho).elim HNO.out (fun h => by have h : w3.heap.size ≤ w.heap.size := h; omega))
    have hbox4 : w.heap.size < w4.heap.size := World.block_lt_of_cell? _ _ e0
    have HP := Lib.hid (ent_put hq0.drew hn1 i hi ⟨eb, es, ek⟩)
    rw [hg0] at HP
    have HT0 := Lib.hid ht0
    have HG0 := Lib.hid hg0
    clear c0 c1 c2 q0 hq0 ht0 hg0
    go_wp2_with fail
    go_region_with (first
      | (go_at_call 74; refine HP.out.mono ?_; rintro e w5 ⟨rfl, P1, hg1, hq1, ht1⟩))
    have d0 : w5.cell? ⟨w.heap.size, 0, none⟩ = some (.int .i64 (eb : Int)) := (World.cell?_of_block (w := w4.drew) (ht1.block w.heap.size hbox4 HNO0.out)).trans e0
    have HP2 := Lib.hid (own_put hq1.drew hN eb hN1 (i : Int))
    rw [hg1] at HP2
    have HT1 := Lib.hid ht1
    clear e0 e1 e2 hq1 ht1 hg1
    go_wp2_with fail
    go_region_with (first
      | (go_at_call 73; refine HP2.out.mono ?_; rintro e w6 ⟨rfl, P2, hg2, hq2, ht2⟩))
    go_end0
    have hdr : ∀ (O : Nat → Prop) (w : World), Turn O O w w.drew := fun O w => Turn.of_below O (Below.refl _ _).drew
    refine ⟨rfl, P2, hg2, ⟨hq2.congr (entF_put n st hi _) fun b _ => ?_, HIV.out, hn0, hn1⟩, (HT2.out.trans ((hdr _ _).trans HT0.out)).trans (((hdr _ _).trans HT1.out).trans ((hdr _ _).trans ht2))⟩
    unfold ownF
    rw [HWP.out b, HM0.out]
    by_cases hbe : b = eb
    · rw [if_pos hbe, if_pos (by omega)]
    · rw [if_neg hbe, if_neg (by omega)]
      by_cases hbo : b = ob'
      · rw [if_pos hbo, if_pos (by omega)]
      · rw [if_neg hbo, if_neg (by omega)]

end
end Go.Proofs.Ytpheblblkkclbaa.L2pPkg
