/-
  What package lines does: Open, Close, Get.
-/
import Derived.Test.YtnnonkmkdjhacaaLinesBest
import Derived.Test.YtnnonkmkdjhacaaLinesSum
namespace Go.Proofs.Ytnnonkmkdjhacaa.LinesPkg
open Go.RowKit Lines
open Nand (Shape upd upd_same upd_other)
set_option maxRecDepth 4000

section
variable {G : Shape} {n : Nat} {w : World} {P : Pl} {f : St}

def pairV (q : Int × Int) : Value := .tuple #[.int .i64 q.1, .int .i64 q.2]

theorem Open_any (h : Lp G n w P f) :
    Calls Try.prog 16 #[ptr P.g 0] w fun e w' => e = .returned (pairV (openR f n)) ∧ Lp G n w' P (openS f n) ∧ Turn P.own P.own w w' := by
  have H := Lib.hid h
  have HC := Lib.hid (Current_any h)
  have HLW := Lib.hid (fun w (h : Lp G n w P f) => leastWorn_any h)
  unfold openR openS
  by_cases hc : cur f n = -1
  rotate_left
  · rw [if_pos hc, if_neg (fun hh => hc hh.1)]
    generalize cur f n = c at *
    clear h
    go_enter Try.func16, Try.ntmps16
    go_wp2_with fail
    refine HC.out.mono ?_
    rintro e w2 ⟨rfl, hb⟩
    have HB := Lib.hid hb
    clear hb
    go_wp2
    go_ret2
    exact ⟨rfl, H.out.below HB.out, Turn.of_below _ HB.out⟩
  rw [if_neg (fun hh => hh hc)]
  have HCU := Lib.hid hc
  rw [hc] at HC
  by_cases hb : best f n = -1
  · rw [if_pos hb, if_neg (fun hh => hh.2 hb)]
    rw [hb] at HLW
    clear h hc hb
    go_enter Try.func16, Try.ntmps16
    go_wp2_with fail
    refine HC.out.mono ?_
    rintro e w2 ⟨rfl, hb⟩
    have HB := Lib.hid hb
    have HW := Lib.hid (HLW.out w2 (H.out.below hb))
    clear hb
    go_wp2_with fail
    refine HW.out.mono ?_
    rintro e w3 ⟨rfl, hb⟩
    replace HB := Lib.hid (below_then HB.out hb)
    clear hb
    go_wp2
    go_ret2
    exact ⟨rfl, H.out.below HB.out, Turn.of_below _ HB.out⟩
  · rw [if_neg hb, if_pos ⟨hc, hb⟩]
    obtain ⟨i, hi, he, hs⟩ := best_some hb
    rw [he] at HLW ⊢
    rw [Int.toNat_natCast]
    have HX := Lib.hid (fun w (h : Lp G n w P f) => change_opn h i hi 0 hs HCU.out)
    have hn1 := h.n1
    have hi2 : ((i : Int) == -1) = false := by simp
    clear h hc hb he hs
    go_enter Try.func16, Try.ntmps16
    go_wp2_with fail
    refine HC.out.mono ?_
    rintro e w2 ⟨rfl, hb⟩
    have HB := Lib.hid hb
    have HW := Lib.hid (HLW.out w2 (H.out.below hb))
    clear hb
    go_wp2_with fail
    refine HW.out.mono ?_
    rintro e w3 ⟨rfl, hb⟩
    replace HB := Lib.hid (below_then HB.out hb)
    have HX2 := Lib.hid (HX.out w3 (H.out.below HB.out))
    clear hb HX
    go_wp2_with fail
    refine HX2.out.mono ?_
    rintro e w4 ⟨rfl, hl, hg⟩
    have HL := Lib.hid hl
    have HG := Lib.hid hg
    clear hl hg
    go_wp2
    go_ret2
    exact ⟨rfl, HL.out, (Turn.of_below _ HB.out).trans (grown_turn HG.out (.inr rfl))⟩

theorem Close_any (h : Lp G n w P f) :
    Calls Try.prog 17 #[ptr P.g 0] w fun e w' => e = .returned (pairV (closeR f n)) ∧ Lp G n w' P (closeS f n) ∧ Turn P.own P.own w w' := by
  have H := Lib.hid h
  have HC := Lib.hid (Current_any h)
  unfold closeR closeS
  rcases cur_cases f n with ⟨hc, _⟩ | ⟨i, hi, he, hs⟩
  · rw [if_pos hc, if_pos hc]
    rw [hc] at HC
    clear h hc
    go_enter Try.func17, Try.ntmps17
    go_wp2_with fail
    refine HC.out.mono ?_
    rintro e w2 ⟨rfl, hb⟩
    have HB := Lib.hid hb
    clear hb
    go_wp2
    go_ret2
    exact ⟨rfl, H.out.below HB.out, Turn.of_below _ HB.out⟩
  · rw [if_neg (by omega), if_neg (by omega)]
    rw [he] at HC ⊢
    rw [Int.toNat_natCast]
    have HX := Lib.hid (fun w (h : Lp G n w P f) => change_shut h i hi 1 hs)
    have hn1 := h.n1
    have hi2 : ((i : Int) == -1) = false := by simp
    clear h he hs
    go_enter Try.func17, Try.ntmps17
    go_wp2_with fail
    refine HC.out.mono ?_
    rintro e w2 ⟨rfl, hb⟩
    have HB := Lib.hid hb
    have HX2 := Lib.hid (HX.out w2 (H.out.below hb))
    clear hb HX
    go_wp2_with fail
    refine HX2.out.mono ?_
    rintro e w4 ⟨rfl, hl, hg⟩
    have HL := Lib.hid hl
    have HG := Lib.hid hg
    clear hl hg
    go_wp2
    go_ret2
    exact ⟨rfl, HL.out, (Turn.of_below _ HB.out).trans (grown_turn HG.out (.inr rfl))⟩

/-- What is told of a line. -/
def lineV (G : Shape) (x : Ln) : Value := .agg #[.int .i64 x.st, .int .i64 x.wr, .int .i64 x.gd, .int .i64 0, .int .i64 (room G x.gd)]
def noLine : Value := .agg #[.int .i64 0, .int .i64 0, .int .i64 0, .int .i64 0, .int .i64 0]

theorem Get_out (h : Lp G n w P f) (line : Int) (hl : ¬ (0 ≤ line ∧ line < n)) :
    Calls Try.prog 15 #[ptr P.g 0, .int .i64 line] w fun e w' => e = .returned (.tuple #[noLine, .int .i64 2]) ∧ Below w.heap.size w w' := by
  have hb := (Below.refl w.heap.size w).alloc (Nat.le_refl _) (.cells #[.int .i64 0, .int .i64 0, .int .i64 0, .int .i64 0, .int .i64 0] 45)
  have HA := Lib.hid (at_out (h.below hb) line hl)
  have HB := Lib.hid hb
  clear h hl hb
  go_enter Try.func15, Try.ntmps15
  go_wp2_with fail
  refine HA.out.mono ?_
  rintro e w2 ⟨rfl, hw⟩; subst w2
  go_wp2
  refine bodyPost_ret (v := .tuple #[noLine, .int .i64 2]) ?_ rfl ⟨rfl, HB.out⟩
  simp [results, Try.results15, go_sem, noLine]

theorem five_cells {w : World} {b : Nat} {x0 x1 x2 x3 x4 : Value} {t : TypeId} (h : w.heap[b]? = some (.cells #[x0, x1, x2, x3, x4] t (0, 0))) :
    (w.cell? ⟨b, 0, none⟩ = some x0 ∧ w.cell? ⟨b, 1, none⟩ = some x1 ∧ w.cell? ⟨b, 2, none⟩ = some x2 ∧ w.cell? ⟨b, 3, none⟩ = some x3 ∧ w.cell? ⟨b, 4, none⟩ = some x4) ∧
    (w.frozen? ⟨b, 0, none⟩ = false ∧ w.frozen? ⟨b, 1, none⟩ = false ∧ w.frozen? ⟨b, 2, none⟩ = false ∧ w.frozen? ⟨b, 3, none⟩ = false ∧ w.frozen? ⟨b, 4, none⟩ = false) := by
  refine ⟨⟨?_, ?_, ?_, ?_, ?_⟩, ⟨?_, ?_, ?_, ?_, ?_⟩⟩ <;> simp [World.cell?, World.frozen?, h]

theorem five_set {w : World} {b : Nat} {x0 x1 x2 x3 x4 y0 y1 y2 y3 y4 : Value} {t : TypeId} (h : w.heap[b]? = some (.cells #[x0, x1, x2, x3, x4] t (0, 0))) :
    (((((w.setCell ⟨b, 0, none⟩ y0).setCell ⟨b, 1, none⟩ y1).setCell ⟨b, 2, none⟩ y2).setCell ⟨b, 3, none⟩ y3).setCell ⟨b, 4, none⟩ y4).heap[b]? = some (.cells #[y0, y1, y2, y3, y4] t (0, 0)) := by
  simp [World.setCell, Array.getElem?_modify, h]

theorem eight_keep {w w' : World} {a0 a1 a2 a3 a4 a5 a6 a7 : Addr} {v0 v1 v2 v3 v4 v5 v6 v7 : Value} (h : w.cell? a0 = some v0 ∧ w.cell? a1 = some v1 ∧ w.cell? a2 = some v2 ∧ w.cell? a3 = some v3 ∧ w.cell? a4 = some v4 ∧ w.cell? a5 = some v5 ∧ w.cell? a6 = some v6 ∧ w.cell? a7 = some v7) (hb : Below w.heap.size w w') :
    w'.cell? a0 = some v0 ∧ w'.cell? a1 = some v1 ∧ w'.cell? a2 = some v2 ∧ w'.cell? a3 = some v3 ∧ w'.cell? a4 = some v4 ∧ w'.cell? a5 = some v5 ∧ w'.cell? a6 = some v6 ∧ w'.cell? a7 = some v7 :=
  ⟨cell_stays hb h.1, cell_stays hb h.2.1, cell_stays hb h.2.2.1, cell_stays hb h.2.2.2.1, cell_stays hb h.2.2.2.2.1, cell_stays hb h.2.2.2.2.2.1, cell_stays hb h.2.2.2.2.2.2.1, cell_stays hb h.2.2.2.2.2.2.2⟩

theorem eight_set {w : World} {b g L o : Nat} {y0 y1 y2 y3 y4 v0 v1 v2 v3 v4 v5 v6 v7 : Value} (h : w.cell? ⟨g, 0, none⟩ = some v0 ∧ w.cell? ⟨g, 1, none⟩ = some v1 ∧ w.cell? ⟨g, 2, none⟩ = some v2 ∧ w.cell? ⟨g, 3, none⟩ = some v3 ∧ w.cell? ⟨g, 4, none⟩ = some v4 ∧ w.cell? ⟨L, o, none⟩ = some v5 ∧ w.cell? ⟨L, o + 1, none⟩ = some v6 ∧ w.cell? ⟨L, o + 2, none⟩ = some v7) (hg : g ≠ b) (hL : L ≠ b) :
    (((((w.setCell ⟨b, 0, none⟩ y0).setCell ⟨b, 1, none⟩ y1).setCell ⟨b, 2, none⟩ y2).setCell ⟨b, 3, none⟩ y3).setCell ⟨b, 4, none⟩ y4).cell? ⟨g, 0, none⟩ = some v0 ∧ (((((w.setCell ⟨b, 0, none⟩ y0).setCell ⟨b, 1, none⟩ y1).setCell ⟨b, 2, none⟩ y2).setCell ⟨b, 3, none⟩ y3).setCell ⟨b, 4, none⟩ y4).cell? ⟨g, 1, none⟩ = some v1 ∧ (((((w.setCell ⟨b, 0, none⟩ y0).setCell ⟨b, 1, none⟩ y1).setCell ⟨b, 2, none⟩ y2).setCell ⟨b, 3, none⟩ y3).setCell ⟨b, 4, none⟩ y4).cell? ⟨g, 2, none⟩ = some v2 ∧ (((((w.setCell ⟨b, 0, none⟩ y0).setCell ⟨b, 1, none⟩ y1).setCell ⟨b, 2, none⟩ y2).setCell ⟨b, 3, none⟩ y3).setCell ⟨b, 4, none⟩ y4).cell? ⟨g, 3, none⟩ = some v3 ∧ (((((w.setCell ⟨b, 0, none⟩ y0).setCell ⟨b, 1, none⟩ y1).setCell ⟨b, 2, none⟩ y2).setCell ⟨b, 3, none⟩ y3).setCell ⟨b, 4, none⟩ y4).cell? ⟨g, 4, none⟩ = some v4 ∧ (((((w.setCell ⟨b, 0, none⟩ y0).setCell ⟨b, 1, none⟩ y1).setCell ⟨b, 2, none⟩ y2).setCell ⟨b, 3, none⟩ y3).setCell ⟨b, 4, none⟩ y4).cell? ⟨L, o, none⟩ = some v5 ∧ (((((w.setCell ⟨b, 0, none⟩ y0).setCell ⟨b, 1, none⟩ y1).setCell ⟨b, 2, none⟩ y2).setCell ⟨b, 3, none⟩ y3).setCell ⟨b, 4, none⟩ y4).cell? ⟨L, o + 1, none⟩ = some v6 ∧ (((((w.setCell ⟨b, 0, none⟩ y0).setCell ⟨b, 1, none⟩ y1).setCell ⟨b, 2, none⟩ y2).setCell ⟨b, 3, none⟩ y3).setCell ⟨b, 4, none⟩ y4).cell? ⟨L, o + 2, none⟩ = some v7 := by
  have hs : ∀ a : Addr, a.block ≠ b → (((((w.setCell ⟨b, 0, none⟩ y0).setCell ⟨b, 1, none⟩ y1).setCell ⟨b, 2, none⟩ y2).setCell ⟨b, 3, none⟩ y3).setCell ⟨b, 4, none⟩ y4).cell? a = w.cell? a := fun a ha => World.cell?_of_block (w := w) (((((Below.heap_setCell _ ⟨b, 4, none⟩ y4 a.block ha).trans (Below.heap_setCell _ ⟨b, 3, none⟩ y3 a.block ha)).trans (Below.heap_setCell _ ⟨b, 2, none⟩ y2 a.block ha)).trans (Below.heap_setCell _ ⟨b, 1, none⟩ y1 a.block ha)).trans (Below.heap_setCell _ ⟨b, 0, none⟩ y0 a.block ha))
  exact ⟨(hs _ hg).trans h.1, (hs _ hg).trans h.2.1, (hs _ hg).trans h.2.2.1, (hs _ hg).trans h.2.2.2.1, (hs _ hg).trans h.2.2.2.2.1, (hs _ hL).trans h.2.2.2.2.2.1, (hs _ hL).trans h.2.2.2.2.2.2.1, (hs _ hL).trans h.2.2.2.2.2.2.2⟩

set_option maxHeartbeats 40000000 in
theorem Get_in (h : Lp G n w P f) (i : Nat) (hi : i < n) :
    Calls Try.prog 15 #[ptr P.g 0, .int .i64 (i : Int)] w fun e w' => e = .returned (.tuple #[lineV G (f i), .int .i64 0]) ∧ Below w.heap.size w w' := by
  obtain ⟨X, hX⟩ : ∃ X, X = w.alloc (.cells #[.int .i64 0, .int .i64 0, .int .i64 0, .int .i64 0, .int .i64 0] 45) := ⟨_, rfl⟩
  have hb : Below w.heap.size w X := by rw [hX]; exact (Below.refl w.heap.size w).alloc (Nat.le_refl _) _
  have hnew : X.heap[w.heap.size]? = some (.cells #[.int .i64 0, .int .i64 0, .int .i64 0, .int .i64 0, .int .i64 0] 45 (0, 0)) := by rw [hX]; exact heap_alloc_new w _
  have hp := h.below hb
  have HA := Lib.hid (at_in hp i hi)
  obtain ⟨k0, k1, k2, k3, k4, _⟩ := hp.cells
  obtain ⟨c0, c1, c2, _⟩ := hp.at hi
  have hg := h.inv.gd i hi
  have HR := Lib.hid (fun w => room_any h.ok (f i) hg.1 hg.2 w)
  have HB := Lib.hid hb.drew
  have HN : Hid (X.drew.heap[w.heap.size]? = some (.cells #[.int .i64 0, .int .i64 0, .int .i64 0, .int .i64 0, .int .i64 0] 45 (0, 0))) := Lib.hid hnew
  obtain ⟨⟨z0, z1, z2, z3, z4⟩, F0, F1, F2, F3, F4⟩ := five_cells HN.out
  have HC : Hid (X.drew.cell? ⟨P.g, 0, none⟩ = some (.int .i64 G.c) ∧ X.drew.cell? ⟨P.g, 1, none⟩ = some (.int .i64 G.l) ∧ X.drew.cell? ⟨P.g, 2, none⟩ = some (.int .i64 G.k) ∧ X.drew.cell? ⟨P.g, 3, none⟩ = some (.int .i64 G.p) ∧ X.drew.cell? ⟨P.g, 4, none⟩ = some (.int .i64 G.s) ∧ X.drew.cell? ⟨P.L, i * 3, none⟩ = some (.int .i64 (f i).st) ∧ X.drew.cell? ⟨P.L, i * 3 + 1, none⟩ = some (.int .i64 (f i).wr) ∧ X.drew.cell? ⟨P.L, i * 3 + 2, none⟩ = some (.int .i64 (f i).gd)) := Lib.hid ⟨k0, k1, k2, k3, k4, c0, c1, c2⟩
  have HX := Lib.hid hX
  have HNE := Lib.hid (show P.g ≠ w.heap.size ∧ P.L ≠ w.heap.size from ⟨by have := h.ltg; omega, by have := h.ltL; omega⟩)
  clear h hp hb hnew hi hg hX
  unfold lineV
  unfold recV at HR
  generalize room G (f i).gd = R at *
  generalize (f i).st = s0 at *
  generalize (f i).wr = s1 at *
  generalize (f i).gd = s2 at *
  generalize i * 3 = o at *
  obtain ⟨g, L, cc⟩ := P
  dsimp only at *
  generalize G.c = g0 at *
  generalize G.l = g1 at *
  generalize G.k = g2 at *
  generalize G.p = g3 at *
  generalize G.s = g4 at *
  go_enter Try.func15, Try.ntmps15
  go_wp2_with fail
  rw [← HX.out]
  refine HA.out.mono ?_
  rintro e w2 ⟨rfl, hw⟩; subst w2
  go_wp2
  go_region_held (fun w' => w'.cell? ⟨g, 0, none⟩ = some (.int .i64 g0) ∧ w'.cell? ⟨g, 1, none⟩ = some (.int .i64 g1) ∧ w'.cell? ⟨g, 2, none⟩ = some (.int .i64 g2) ∧ w'.cell? ⟨g, 3, none⟩ = some (.int .i64 g3) ∧ w'.cell? ⟨g, 4, none⟩ = some (.int .i64 g4) ∧ w'.cell? ⟨L, o, none⟩ = some (.int .i64 s0) ∧ w'.cell? ⟨L, o + 1, none⟩ = some (.int .i64 s1) ∧ w'.cell? ⟨L, o + 2, none⟩ = some (.int .i64 s2))
    (first | exact HC.out | exact eight_keep (by assumption) hb | exact eight_set (by assumption) HNE.out.1 HNE.out.2 | go_keep)
    (first | (go_at_call 43; refine (HR.out _).mono ?_; rintro e w2 ⟨rfl, hb⟩; replace HB := Lib.hid (below_then HB.out hb); replace HN := Lib.hid ((hb.block _ (Array.getElem?_eq_some_iff.1 HN.out).1).trans HN.out); clear z0 z1 z2 z3 z4 F0 F1 F2 F3 F4; obtain ⟨⟨z0, z1, z2, z3, z4⟩, F0, F1, F2, F3, F4⟩ := five_cells HN.out))
  rename_i hHeld
  have h5 := five_set (y0 := .int .i64 s0) (y1 := .int .i64 s1) (y2 := .int .i64 s2) (y3 := .int .i64 0) (y4 := .int .i64 R) HN.out
  have HB5 := Lib.hid (((((HB.out.setCell (p := ⟨w.heap.size, 0, none⟩) (Nat.le_refl _) (.int .i64 s0)).setCell (p := ⟨w.heap.size, 1, none⟩) (Nat.le_refl _) (.int .i64 s1)).setCell (p := ⟨w.heap.size, 2, none⟩) (Nat.le_refl _) (.int .i64 s2)).setCell (p := ⟨w.heap.size, 3, none⟩) (Nat.le_refl _) (.int .i64 0)).setCell (p := ⟨w.heap.size, 4, none⟩) (Nat.le_refl _) (.int .i64 R))
  clear hHeld hb z0 z1 z2 z3 z4 F0 F1 F2 F3 F4 HN HB
  generalize World.setCell _ _ _ = Y at h5 HB5 ⊢
  obtain ⟨⟨q0, q1, q2, q3, q4⟩, _⟩ := five_cells h5
  go_wp2
  try simp only [Exit.inBlock, Exit.then]
  refine bodyPost_ret (v := .tuple #[.agg #[.int .i64 s0, .int .i64 s1, .int .i64 s2, .int .i64 0, .int .i64 R], .int .i64 0]) ?_ rfl ⟨rfl, HB5.out⟩
  simp [results, Try.results15, go_sem, q0, q1, q2, q3, q4]
end
end Go.Proofs.Ytnnonkmkdjhacaa.LinesPkg
