/-
  What package nand does: Program, Erase, Retire.
-/
import Derived.Test.YtlmdlhfdacmcnaaNandStore
namespace Go.Proofs.Ytlmdlhfdacmcnaa.NandPkg
open Go.RowKit Nand
set_option maxRecDepth 4000

theorem many_le (xs : List UInt8) {s : Int} (h0 : 0 ≤ s) : 0 ≤ Plan.many xs s ∧ Plan.many xs s ≤ s := by
  cases xs with
  | nil => exact ⟨Int.le_refl _, h0⟩
  | cons x r =>
    show 0 ≤ Plan.wrt _ s ∧ Plan.wrt _ s ≤ s
    unfold Plan.wrt
    split
    · have h3 := Int.emod_nonneg ((x.toNat : Int) / 4) (show s + 1 ≠ 0 by omega)
      have h4 := Int.emod_lt_of_pos ((x.toNat : Int) / 4) (show 0 < s + 1 by omega)
      omega
    · omega

theorem held2_keep {w w' : World} {a b : Addr} {x y : Value} (h : w.cell? a = some x ∧ w.cell? b = some y) (hb : Below w.heap.size w w') : w'.cell? a = some x ∧ w'.cell? b = some y :=
  ⟨cell_stays hb h.1, cell_stays hb h.2⟩

theorem held2_grown {w w' : World} {a b : Addr} {x y : Value} {r : Nat} (h : w.cell? a = some x ∧ w.cell? b = some y) (hg : w.grownBy w' (some r)) (ha : a.block ≠ r) (hb : b.block ≠ r) : w'.cell? a = some x ∧ w'.cell? b = some y :=
  ⟨hg.cell h.1 (fun e => ha (by injection e)), hg.cell h.2 (fun e => hb (by injection e))⟩

section
variable {G : Shape} {w : World} {P : Pl} {st : St} {D : Nat → Prop}

theorem prog_off (h : Dev G w P st) (hoff : st.off = true) (u b g : Int) (V V2 : Value) :
    Calls Try.prog 27 #[ptr P.g, .int .i64 u, .int .i64 b, .int .i64 g, V, V2] w fun e w' => e = .returned (.int .i64 5) ∧ w' = w := by
  have HO := Lib.hid (Off_any h)
  rw [hoff] at HO
  clear h hoff
  go_enter Try.func27, Try.ntmps27
  go_wp2_with fail
  refine HO.out.mono ?_
  rintro e w2 ⟨rfl, rfl⟩
  go_wp2
  go_ret
  exact ⟨rfl, rfl⟩

theorem prog_bad (hG : G.Ok) (h : Dev G w P st) (hoff : st.off = false) (u b g : Int) (A A2 : Option Addr) (n n2 c c2 : Nat) (dat oob : List (List UInt8)) (hc : Came w D A n A2 n2 dat oob) (hm : st.may G u b g dat oob ≠ 0) :
    Calls Try.prog 27 #[ptr P.g, .int .i64 u, .int .i64 b, .int .i64 g, .slice A n c, .slice A2 n2 c2] w fun e w' => e = .returned (.int .i64 (st.may G u b g dat oob)) ∧ Dev G w' P st.refused ∧ Turn P.own P.own w w' := by
  have HO := Lib.hid (Off_any h)
  rw [hoff] at HO
  have HM := Lib.hid (may_any hG h u b g A A2 n n2 c c2 dat oob hc)
  have H := Lib.hid h
  generalize st.may G u b g dat oob = x at hm HM ⊢
  have hmb : (x != 0) = true := by simpa using hm
  clear h hoff hc hm
  go_enter Try.func27, Try.ntmps27
  go_wp2_with fail
  refine HO.out.mono ?_
  rintro e w2 ⟨rfl, rfl⟩
  go_wp2_with fail
  refine HM.out.mono ?_
  rintro e w3 ⟨rfl, hb⟩
  have HR := Lib.hid (refuse_any (H.out.below hb) x)
  have HB := Lib.hid hb
  clear hb
  go_wp2_with fail
  refine HR.out.mono ?_
  rintro e w4 ⟨rfl, hd, ht⟩
  have HD := Lib.hid hd
  have HT := Lib.hid ((Turn.of_below P.own HB.out).trans ht)
  clear hd ht
  go_wp2
  go_ret
  exact ⟨rfl, HD.out, HT.out⟩

/-- What a page that may be programmed is. -/
theorem may_zero {u b g : Int} {dat oob : List (List UInt8)} (hm : st.may G u b g dat oob = 0) : mayBe G u b g dat oob ∧ st.rt (blk G u b) = false ∧ g = st.nx (blk G u b) := by
  unfold St.may at hm
  by_cases h1 : mayBe G u b g dat oob
  · rw [if_neg (fun h => h h1)] at hm
    by_cases h2 : st.rt (blk G u b) = true
    · rw [if_pos h2] at hm
      omega
    · rw [if_neg h2] at hm
      by_cases h3 : g = st.nx (blk G u b)
      · exact ⟨h1, by simpa using h2, h3⟩
      · rw [if_pos h3] at hm
        omega
  · rw [if_pos h1] at hm
    omega

set_option linter.unusedVariables false in
theorem prog_fail (hG : G.Ok) (h : Dev G w P st) (hoff : st.off = false) (u b g : Int) (A A2 : Option Addr) (n n2 c c2 : Nat) (dat oob : List (List UInt8)) (hc : Came w D A n A2 n2 dat oob) (hD : ∀ b, D b → ¬ P.own b) (hnc : n ≤ c)
    (hm : st.may G u b g dat oob = 0) (hk0 : 0 ≤ st.many) (hk1 : st.many < 4611686018427387904) (hs : Plan.says st.plan = 1) :
    Calls Try.prog 27 #[ptr P.g, .int .i64 u, .int .i64 b, .int .i64 g, .slice A n c, .slice A2 n2 c2] w fun e w' => e = .returned (.int .i64 8) ∧ Dev G w' P { st with nx := upd st.nx (blk G u b) (g + 1), plan := st.plan.tail, many := st.many + 1 } ∧ Turn P.own P.own w w' := by
  have HO := Lib.hid (Off_any h)
  rw [hoff] at HO
  have HM := Lib.hid (may_any hG h u b g A A2 n n2 c c2 dat oob hc)
  rw [hm] at HM
  obtain ⟨⟨hh, hg0, hg1, hf1, hf2⟩, hrt, hnx⟩ := may_zero hm
  have hn : (n : Int) = G.s := by rw [← hc.dat.1]; exact hf1.1
  have hn2 : (n2 : Int) = G.s := by rw [← hc.oob.1]; exact hf2.1
  have hs1 : G.s ≤ 4 := hG.may.2.2.2.2.2.2.2.2.2
  have hs0 : 1 ≤ G.s := hG.may.2.2.2.2.2.2.2.2.1
  have hp1 : G.p ≤ 32 := hG.may.2.2.2.2.2.2.2.1
  have hml := many_le st.plan (s := G.s) (by omega)
  have H := Lib.hid h
  have HC := Lib.hid hc
  have HD := Lib.hid hD
  have HG := Lib.hid hG
  have HH := Lib.hid hh
  have HBL := Lib.hid (fun w (hd : Dev G w P st) => block_ok hG hd u b hh)
  have HT3 := Lib.hid (fun w (hd : Dev G w P st) => (hd.three hG hh).1)
  have HNX := Lib.hid hnx
  have HSAY := Lib.hid hs
  obtain ⟨j, hj⟩ : ∃ j, j = blk G u b := ⟨_, rfl⟩
  rw [← hj] at HBL HT3 HNX ⊢
  rw [← HNX.out] at HT3
  have HJ := Lib.hid hj
  have hjl : j < cnt G := by
    have := (blk_lt hG hh)
    rw [hj]
    unfold cnt
    omega
  have HJL := Lib.hid hjl
  obtain ⟨q, hq⟩ : ∃ q : Nat, Plan.many st.plan G.s = (q : Int) := ⟨(Plan.many st.plan G.s).toNat, by omega⟩
  rw [hq] at hml
  try rw [hq]
  have HQ := Lib.hid hq
  have hgp : P.g ≠ P.gp := by have := h.apart.g_p; have := h.apart.lo; omega
  have hgb : P.g ≠ P.gb := h.apart.g_b
  have HNEXT := Lib.hid (fun w (hd : Dev G w P { st with nx := upd st.nx j (g + 1) }) => PlanPkg.Next_any P.lo P.gp st.plan st.many G.s w hd.plan (by omega) (by omega))
  rw [hq, hs] at HNEXT
  clear h hoff hc hm hD hG hh hf1 hf2 hrt hnx hs hj hjl hq
  go_enter Try.func27, Try.ntmps27
  go_wp2_with fail
  refine HO.out.mono ?_
  rintro e w2 ⟨rfl, hw⟩
  subst w2
  go_wp2_with fail
  refine HM.out.mono ?_
  rintro e w3 ⟨rfl, hb⟩
  have HB := Lib.hid hb
  clear hb
  go_wp2_with fail
  refine (HBL.out _ (H.out.below HB.out)).mono ?_
  rintro e w4 ⟨rfl, hb⟩
  replace HB := Lib.hid (below_then HB.out hb)
  have hd := H.out.below HB.out
  have t0 := HT3.out _ hd
  have tf := hd.row.frozen (j * 3)
  have HV : Hid (Dev G w4 P st) := Lib.hid hd
  clear hb hd
  go_upto_region 7 with fail
  refine at_wld ?_
  intro X hX
  have hgr : w4.grownBy X (some P.gb) := by rw [hX]; exact grown_setCell _ _ _
  replace HV : Hid (Dev G X P { st with nx := upd st.nx j (g + 1) }) := by
    rw [hX]
    exact HV.out.set_row (j * 3) _ (fun i _ => bcell_nx st j (g + 1) i) rfl rfl rfl rfl rfl
  have HT : Hid (Turn P.own P.own w X) := Lib.hid ((Turn.of_below P.own HB.out).trans (Turn.of_grown hgr P.own_b))
  clear hX hgr HB t0 tf
  have c6 : X.cell? ⟨P.g, 6, none⟩ = some (ptr P.gp) := HV.out.cells.2.2.2.2.2.2.1
  have c5 : X.cell? ⟨P.g, 5, none⟩ = some (.int .i64 G.s) := HV.out.cells.2.2.2.2.2.1
  go_region_held3 (fun w' => w'.cell? ⟨P.g, 6, none⟩ = some (ptr P.gp) ∧ w'.cell? ⟨P.g, 5, none⟩ = some (.int .i64 G.s))
    (first | exact ⟨c6, c5⟩ | exact held2_grown (by assumption) hg hgp hgp | go_keep)
    (first
      | (go_at_call 52; refine (HNEXT.out X.drew (HV.out.keep (fun _ _ => rfl) (Nat.le_refl _))).mono ?_; rintro e w5 ⟨rfl, hp, hg0'⟩; have hg : X.grownBy w5 (some P.gp) := ⟨hg0'.os, hg0'.tape, hg0'.output, hg0'.size, hg0'.block⟩; clear hg0'; have HV2 := Lib.hid (HV.out.set_next (w' := w5) hg hp); have HT2 := Lib.hid (HT.out.trans (Turn.of_grown (w := X) (w' := w5) hg (P.own_p ⟨HV.out.apart.lo, Nat.le_refl _⟩))); clear hp))
  rename_i hHeld
  clear hHeld c6 c5 hg HV HT
  go_wp2
  go_ret
  exact ⟨rfl, HV2.out, HT2.out⟩

theorem prog_cut (hG : G.Ok) (h : Dev G w P st) (hoff : st.off = false) (u b g : Int) (A A2 : Option Addr) (n n2 c c2 : Nat) (dat oob : List (List UInt8)) (hc : Came w D A n A2 n2 dat oob) (hD : ∀ b, D b → ¬ P.own b) (hnc : n ≤ c)
    (hm : st.may G u b g dat oob = 0) (hk0 : 0 ≤ st.many) (hk1 : st.many < 4611686018427387904) (hs : Plan.says st.plan = 2) :
    Calls Try.prog 27 #[ptr P.g, .int .i64 u, .int .i64 b, .int .i64 g, .slice A n c, .slice A2 n2 c2] w fun e w' => e = .returned (.int .i64 5) ∧ ∃ D', Dev G w' { P with D := D' } { st with nx := upd st.nx (blk G u b) (g + 1), plan := st.plan.tail, many := st.many + 1, rd := lay G u b g dat oob st.rd (Plan.many st.plan G.s).toNat, off := true } ∧ Turn P.own (Pl.own { P with D := D' }) w w' := by
  have HO := Lib.hid (Off_any h)
  rw [hoff] at HO
  have HM := Lib.hid (may_any hG h u b g A A2 n n2 c c2 dat oob hc)
  rw [hm] at HM
  obtain ⟨⟨hh, hg0, hg1, hf1, hf2⟩, hrt, hnx⟩ := may_zero hm
  have hn : (n : Int) = G.s := by rw [← hc.dat.1]; exact hf1.1
  have hn2 : (n2 : Int) = G.s := by rw [← hc.oob.1]; exact hf2.1
  have hs1 : G.s ≤ 4 := hG.may.2.2.2.2.2.2.2.2.2
  have hs0 : 1 ≤ G.s := hG.may.2.2.2.2.2.2.2.2.1
  have hp1 : G.p ≤ 32 := hG.may.2.2.2.2.2.2.2.1
  have hml := many_le st.plan (s := G.s) (by omega)
  have H := Lib.hid h
  have HC := Lib.hid hc
  have HD := Lib.hid hD
  have HG := Lib.hid hG
  have HH := Lib.hid hh
  have HBL := Lib.hid (fun w (hd : Dev G w P st) => block_ok hG hd u b hh)
  have HT3 := Lib.hid (fun w (hd : Dev G w P st) => (hd.three hG hh).1)
  have HNX := Lib.hid hnx
  have HSAY := Lib.hid hs
  obtain ⟨j, hj⟩ : ∃ j, j = blk G u b := ⟨_, rfl⟩
  rw [← hj] at HBL HT3 HNX ⊢
  rw [← HNX.out] at HT3
  have HJ := Lib.hid hj
  have hjl : j < cnt G := by
    have := (blk_lt hG hh)
    rw [hj]
    unfold cnt
    omega
  have HJL := Lib.hid hjl
  obtain ⟨q, hq⟩ : ∃ q : Nat, Plan.many st.plan G.s = (q : Int) := ⟨(Plan.many st.plan G.s).toNat, by omega⟩
  rw [hq] at hml
  try rw [hq]
  have HQ := Lib.hid hq
  have hgp : P.g ≠ P.gp := by have := h.apart.g_p; have := h.apart.lo; omega
  have hgb : P.g ≠ P.gb := h.apart.g_b
  have HNEXT := Lib.hid (fun w (hd : Dev G w P { st with nx := upd st.nx j (g + 1) }) => PlanPkg.Next_any P.lo P.gp st.plan st.many G.s w hd.plan (by omega) (by omega))
  rw [hq, hs] at HNEXT
  clear h hoff hc hm hD hG hh hf1 hf2 hrt hnx hs hj hjl hq
  go_enter Try.func27, Try.ntmps27
  go_wp2_with fail
  refine HO.out.mono ?_
  rintro e w2 ⟨rfl, hw⟩
  subst w2
  go_wp2_with fail
  refine HM.out.mono ?_
  rintro e w3 ⟨rfl, hb⟩
  have HB := Lib.hid hb
  clear hb
  go_wp2_with fail
  refine (HBL.out _ (H.out.below HB.out)).mono ?_
  rintro e w4 ⟨rfl, hb⟩
  replace HB := Lib.hid (below_then HB.out hb)
  have hd := H.out.below HB.out
  have t0 := HT3.out _ hd
  have tf := hd.row.frozen (j * 3)
  have HV : Hid (Dev G w4 P st) := Lib.hid hd
  clear hb hd
  go_upto_region 7 with fail
  refine at_wld ?_
  intro X hX
  have hgr : w4.grownBy X (some P.gb) := by rw [hX]; exact grown_setCell _ _ _
  replace HV : Hid (Dev G X P { st with nx := upd st.nx j (g + 1) }) := by
    rw [hX]
    exact HV.out.set_row (j * 3) _ (fun i _ => bcell_nx st j (g + 1) i) rfl rfl rfl rfl rfl
  have HT : Hid (Turn P.own P.own w X) := Lib.hid ((Turn.of_below P.own HB.out).trans (Turn.of_grown hgr P.own_b))
  clear hX hgr HB t0 tf
  have c6 : X.cell? ⟨P.g, 6, none⟩ = some (ptr P.gp) := HV.out.cells.2.2.2.2.2.2.1
  have c5 : X.cell? ⟨P.g, 5, none⟩ = some (.int .i64 G.s) := HV.out.cells.2.2.2.2.2.1
  go_region_held3 (fun w' => w'.cell? ⟨P.g, 6, none⟩ = some (ptr P.gp) ∧ w'.cell? ⟨P.g, 5, none⟩ = some (.int .i64 G.s))
    (first | exact ⟨c6, c5⟩ | exact held2_grown (by assumption) hg hgp hgp | go_keep)
    (first
      | (go_at_call 52; refine (HNEXT.out X.drew (HV.out.keep (fun _ _ => rfl) (Nat.le_refl _))).mono ?_; rintro e w5 ⟨rfl, hp, hg0'⟩; have hg : X.grownBy w5 (some P.gp) := ⟨hg0'.os, hg0'.tape, hg0'.output, hg0'.size, hg0'.block⟩; clear hg0'; have HV2 := Lib.hid (HV.out.set_next (w' := w5) hg hp); have HT2 := Lib.hid (HT.out.trans (Turn.of_grown (w := X) (w' := w5) hg (P.own_p ⟨HV.out.apart.lo, Nat.le_refl _⟩))); clear hp))
  rename_i hHeld
  clear hHeld c6 c5 hg HV HT
  have HST := Lib.hid (store_any HG.out HV2.out u b g HH.out hg0 hg1 A A2 q n2 c c2 (dat.take q) oob ((fun (hc : Came w5 D A n A2 n2 dat oob) => ⟨by have := hc.few; omega, hc.few2, hc.dat.take (by omega), hc.oob, hc.lt⟩) (HC.out.turn HT2.out HD.out)) HD.out (by omega) (by omega))
  have hqc : (q : Int) ≤ (c : Int) := by omega
  have hq0 : (0 : Int) ≤ (q : Int) := by omega
  have hc0 : ¬ c = 0 := by omega
  go_wp2_with fail
  refine HST.out.mono ?_
  rintro e w6 ⟨rfl, D', hd, ht⟩
  have HV3 := Lib.hid hd
  have HT3 := Lib.hid (HT2.out.trans ht)
  have HL := Lib.hid (lose_any hd)
  clear hd ht
  go_wp2_with fail
  refine HL.out.mono ?_
  rintro e w7 ⟨rfl, hd, ht⟩
  have HV4 := Lib.hid hd
  have HT4 := Lib.hid (HT3.out.trans ht)
  clear hd ht
  go_wp2
  go_ret
  refine ⟨rfl, D', ?_, HT4.out⟩
  have e1 : lay G u b g (dat.take q) oob st.rd q = lay G u b g dat oob st.rd q := lay_take (Nat.le_refl _)
  rw [Int.toNat_natCast, ← e1]
  exact HV4.out

set_option linter.unusedVariables false in
theorem prog_good (hG : G.Ok) (h : Dev G w P st) (hoff : st.off = false) (u b g : Int) (A A2 : Option Addr) (n n2 c c2 : Nat) (dat oob : List (List UInt8)) (hc : Came w D A n A2 n2 dat oob) (hD : ∀ b, D b → ¬ P.own b) (hnc : n ≤ c)
    (hm : st.may G u b g dat oob = 0) (hk0 : 0 ≤ st.many) (hk1 : st.many < 4611686018427387904) (hs : Plan.says st.plan = 0) :
    Calls Try.prog 27 #[ptr P.g, .int .i64 u, .int .i64 b, .int .i64 g, .slice A n c, .slice A2 n2 c2] w fun e w' => e = .returned (.int .i64 0) ∧ ∃ D', Dev G w' { P with D := D' } { st with nx := upd st.nx (blk G u b) (g + 1), plan := st.plan.tail, many := st.many + 1, rd := lay G u b g dat oob st.rd G.s.toNat } ∧ Turn P.own (Pl.own { P with D := D' }) w w' := by
  have HO := Lib.hid (Off_any h)
  rw [hoff] at HO
  have HM := Lib.hid (may_any hG h u b g A A2 n n2 c c2 dat oob hc)
  rw [hm] at HM
  obtain ⟨⟨hh, hg0, hg1, hf1, hf2⟩, hrt, hnx⟩ := may_zero hm
  have hn : (n : Int) = G.s := by rw [← hc.dat.1]; exact hf1.1
  have hn2 : (n2 : Int) = G.s := by rw [← hc.oob.1]; exact hf2.1
  have hs1 : G.s ≤ 4 := hG.may.2.2.2.2.2.2.2.2.2
  have hs0 : 1 ≤ G.s := hG.may.2.2.2.2.2.2.2.2.1
  have hp1 : G.p ≤ 32 := hG.may.2.2.2.2.2.2.2.1
  have hml := many_le st.plan (s := G.s) (by omega)
  have H := Lib.hid h
  have HC := Lib.hid hc
  have HD := Lib.hid hD
  have HG := Lib.hid hG
  have HH := Lib.hid hh
  have HBL := Lib.hid (fun w (hd : Dev G w P st) => block_ok hG hd u b hh)
  have HT3 := Lib.hid (fun w (hd : Dev G w P st) => (hd.three hG hh).1)
  have HNX := Lib.hid hnx
  have HSAY := Lib.hid hs
  obtain ⟨j, hj⟩ : ∃ j, j = blk G u b := ⟨_, rfl⟩
  rw [← hj] at HBL HT3 HNX ⊢
  rw [← HNX.out] at HT3
  have HJ := Lib.hid hj
  have hjl : j < cnt G := by
    have := (blk_lt hG hh)
    rw [hj]
    unfold cnt
    omega
  have HJL := Lib.hid hjl
  obtain ⟨q, hq⟩ : ∃ q : Nat, Plan.many st.plan G.s = (q : Int) := ⟨(Plan.many st.plan G.s).toNat, by omega⟩
  rw [hq] at hml
  try rw [hq]
  have HQ := Lib.hid hq
  have hgp : P.g ≠ P.gp := by have := h.apart.g_p; have := h.apart.lo; omega
  have hgb : P.g ≠ P.gb := h.apart.g_b
  have HNEXT := Lib.hid (fun w (hd : Dev G w P { st with nx := upd st.nx j (g + 1) }) => PlanPkg.Next_any P.lo P.gp st.plan st.many G.s w hd.plan (by omega) (by omega))
  rw [hq, hs] at HNEXT
  clear h hoff hc hm hD hG hh hf1 hf2 hrt hnx hs hj hjl hq
  go_enter Try.func27, Try.ntmps27
  go_wp2_with fail
  refine HO.out.mono ?_
  rintro e w2 ⟨rfl, hw⟩
  subst w2
  go_wp2_with fail
  refine HM.out.mono ?_
  rintro e w3 ⟨rfl, hb⟩
  have HB := Lib.hid hb
  clear hb
  go_wp2_with fail
  refine (HBL.out _ (H.out.below HB.out)).mono ?_
  rintro e w4 ⟨rfl, hb⟩
  replace HB := Lib.hid (below_then HB.out hb)
  have hd := H.out.below HB.out
  have t0 := HT3.out _ hd
  have tf := hd.row.frozen (j * 3)
  have HV : Hid (Dev G w4 P st) := Lib.hid hd
  clear hb hd
  go_upto_region 7 with fail
  refine at_wld ?_
  intro X hX
  have hgr : w4.grownBy X (some P.gb) := by rw [hX]; exact grown_setCell _ _ _
  replace HV : Hid (Dev G X P { st with nx := upd st.nx j (g + 1) }) := by
    rw [hX]
    exact HV.out.set_row (j * 3) _ (fun i _ => bcell_nx st j (g + 1) i) rfl rfl rfl rfl rfl
  have HT : Hid (Turn P.own P.own w X) := Lib.hid ((Turn.of_below P.own HB.out).trans (Turn.of_grown hgr P.own_b))
  clear hX hgr HB t0 tf
  have c6 : X.cell? ⟨P.g, 6, none⟩ = some (ptr P.gp) := HV.out.cells.2.2.2.2.2.2.1
  have c5 : X.cell? ⟨P.g, 5, none⟩ = some (.int .i64 G.s) := HV.out.cells.2.2.2.2.2.1
  go_region_held3 (fun w' => w'.cell? ⟨P.g, 6, none⟩ = some (ptr P.gp) ∧ w'.cell? ⟨P.g, 5, none⟩ = some (.int .i64 G.s))
    (first | exact ⟨c6, c5⟩ | exact held2_grown (by assumption) hg hgp hgp | go_keep)
    (first
      | (go_at_call 52; refine (HNEXT.out X.drew (HV.out.keep (fun _ _ => rfl) (Nat.le_refl _))).mono ?_; rintro e w5 ⟨rfl, hp, hg0'⟩; have hg : X.grownBy w5 (some P.gp) := ⟨hg0'.os, hg0'.tape, hg0'.output, hg0'.size, hg0'.block⟩; clear hg0'; have HV2 := Lib.hid (HV.out.set_next (w' := w5) hg hp); have HT2 := Lib.hid (HT.out.trans (Turn.of_grown (w := X) (w' := w5) hg (P.own_p ⟨HV.out.apart.lo, Nat.le_refl _⟩))); clear hp))
  rename_i hHeld
  clear hHeld c6 c5 hg HV HT
  have HST := Lib.hid (store_any HG.out HV2.out u b g HH.out hg0 hg1 A A2 n n2 c c2 dat oob (HC.out.turn HT2.out HD.out) HD.out (by omega) (by omega))
  have HN : Hid (G.s.toNat = n) := by have : G.s.toNat = n := by omega
                                      exact Lib.hid this
  go_wp2_with fail
  refine HST.out.mono ?_
  rintro e w6 ⟨rfl, D', hd, ht⟩
  have HV3 := Lib.hid hd
  have HT3 := Lib.hid (HT2.out.trans ht)
  clear hd ht
  go_wp2
  go_ret
  refine ⟨rfl, D', ?_, HT3.out⟩
  rw [HN.out]
  exact HV3.out

theorem Program_any (hG : G.Ok) (h : Dev G w P st) (u b g : Int) (A A2 : Option Addr) (n n2 c c2 : Nat) (dat oob : List (List UInt8)) (hc : Came w D A n A2 n2 dat oob) (hD : ∀ b, D b → ¬ P.own b) (hnc : n ≤ c)
    (hk0 : 0 ≤ st.many) (hk1 : st.many < 4611686018427387904) :
    Calls Try.prog 27 #[ptr P.g, .int .i64 u, .int .i64 b, .int .i64 g, .slice A n c, .slice A2 n2 c2] w fun e w' => e = .returned (.int .i64 (st.program G u b g dat oob).1) ∧ ∃ P', P'.g = P.g ∧ Dev G w' P' (st.program G u b g dat oob).2 ∧ Turn P.own P'.own w w' := by
  unfold St.program
  by_cases hoff : st.off = true
  · rw [if_pos hoff]
    refine (prog_off h hoff u b g _ _).mono ?_
    rintro e w2 ⟨rfl, rfl⟩
    exact ⟨rfl, P, rfl, h, Turn.refl _ _⟩
  · rw [if_neg hoff]
    replace hoff : st.off = false := by simpa using hoff
    by_cases hm : st.may G u b g dat oob = 0
    · rw [if_neg (fun h => h hm)]
      have hsb := Plan.says_bd st.plan
      by_cases h1 : Plan.says st.plan = 1
      · rw [if_pos h1]
        refine (prog_fail hG h hoff u b g A A2 n n2 c c2 dat oob hc hD hnc hm hk0 hk1 h1).mono ?_
        rintro e w2 ⟨rfl, hd, ht⟩
        exact ⟨rfl, P, rfl, hd, ht⟩
      · rw [if_neg h1]
        by_cases h2 : Plan.says st.plan = 2
        · rw [if_pos h2]
          refine (prog_cut hG h hoff u b g A A2 n n2 c c2 dat oob hc hD hnc hm hk0 hk1 h2).mono ?_
          rintro e w2 ⟨rfl, D', hd, ht⟩
          exact ⟨rfl, { P with D := D' }, rfl, hd, ht⟩
        · rw [if_neg h2]
          refine (prog_good hG h hoff u b g A A2 n n2 c c2 dat oob hc hD hnc hm hk0 hk1 (by omega)).mono ?_
          rintro e w2 ⟨rfl, D', hd, ht⟩
          exact ⟨rfl, { P with D := D' }, rfl, hd, ht⟩
    · rw [if_pos hm]
      refine (prog_bad hG h hoff u b g A A2 n n2 c c2 dat oob hc hm).mono ?_
      rintro e w2 ⟨rfl, hd, ht⟩
      exact ⟨rfl, P, rfl, hd, ht⟩
end

end Go.Proofs.Ytlmdlhfdacmcnaa.NandPkg
