/-
  What the document's lines of layer 12 do: Get.
-/
import Derived.Test.YtnnonkmkdjhacaaLinesRef2
namespace Go.Proofs.Ytnnonkmkdjhacaa.LinesRef
open Go.RowKit Lines LinesPkg
open Nand (Shape upd upd_same upd_other)
set_option maxRecDepth 4000

def lineV (G : Shape) (x : Ln) : Value := .agg #[.int .i64 x.st, .int .i64 x.wr, .int .i64 x.gd, .int .i64 0, .int .i64 (room G x.gd)]
def noLine : Value := .agg #[.int .i64 0, .int .i64 0, .int .i64 0, .int .i64 0, .int .i64 0]

theorem five_cells {w : World} {b : Nat} {x0 x1 x2 x3 x4 : Value} {t : TypeId} (h : w.heap[b]? = some (.cells #[x0, x1, x2, x3, x4] t (0, 0))) :
    (w.cell? ⟨b, 0, none⟩ = some x0 ∧ w.cell? ⟨b, 1, none⟩ = some x1 ∧ w.cell? ⟨b, 2, none⟩ = some x2 ∧ w.cell? ⟨b, 3, none⟩ = some x3 ∧ w.cell? ⟨b, 4, none⟩ = some x4) ∧
    (w.frozen? ⟨b, 0, none⟩ = false ∧ w.frozen? ⟨b, 1, none⟩ = false ∧ w.frozen? ⟨b, 2, none⟩ = false ∧ w.frozen? ⟨b, 3, none⟩ = false ∧ w.frozen? ⟨b, 4, none⟩ = false) := by
  refine ⟨⟨?_, ?_, ?_, ?_, ?_⟩, ⟨?_, ?_, ?_, ?_, ?_⟩⟩ <;> simp [World.cell?, World.frozen?, h]

theorem five_set {w : World} {b : Nat} {x0 x1 x2 x3 x4 y0 y1 y2 y3 y4 : Value} {t : TypeId} (h : w.heap[b]? = some (.cells #[x0, x1, x2, x3, x4] t (0, 0))) :
    (((((w.setCell ⟨b, 0, none⟩ y0).setCell ⟨b, 1, none⟩ y1).setCell ⟨b, 2, none⟩ y2).setCell ⟨b, 3, none⟩ y3).setCell ⟨b, 4, none⟩ y4).heap[b]? = some (.cells #[y0, y1, y2, y3, y4] t (0, 0)) := by
  simp [World.setCell, Array.getElem?_modify, h]

theorem four_set {w : World} {b : Nat} {x0 x1 x2 x3 x4 y4 : Value} {t : TypeId} (h : w.heap[b]? = some (.cells #[x0, x1, x2, x3, x4] t (0, 0))) : (w.setCell ⟨b, 4, none⟩ y4).heap[b]? = some (.cells #[x0, x1, x2, x3, y4] t (0, 0)) := by
  simp [World.setCell, Array.getElem?_modify, h]

theorem six_keep {w w' : World} {a0 a1 a2 a3 a4 a5 : Addr} {v0 v1 v2 v3 v4 v5 : Value} (h : w.cell? a0 = some v0 ∧ w.cell? a1 = some v1 ∧ w.cell? a2 = some v2 ∧ w.cell? a3 = some v3 ∧ w.cell? a4 = some v4 ∧ w.cell? a5 = some v5) (hb : Below w.heap.size w w') :
    w'.cell? a0 = some v0 ∧ w'.cell? a1 = some v1 ∧ w'.cell? a2 = some v2 ∧ w'.cell? a3 = some v3 ∧ w'.cell? a4 = some v4 ∧ w'.cell? a5 = some v5 :=
  ⟨cell_stays hb h.1, cell_stays hb h.2.1, cell_stays hb h.2.2.1, cell_stays hb h.2.2.2.1, cell_stays hb h.2.2.2.2.1, cell_stays hb h.2.2.2.2.2⟩

theorem six_set {w : World} {g b : Nat} {v0 v1 v2 v3 v4 v5 u : Value} (h : w.cell? ⟨g, 0, none⟩ = some v0 ∧ w.cell? ⟨g, 1, none⟩ = some v1 ∧ w.cell? ⟨g, 2, none⟩ = some v2 ∧ w.cell? ⟨g, 3, none⟩ = some v3 ∧ w.cell? ⟨g, 4, none⟩ = some v4 ∧ w.cell? ⟨b, 2, none⟩ = some v5) (hg : g ≠ b) :
    (w.setCell ⟨b, 4, none⟩ u).cell? ⟨g, 0, none⟩ = some v0 ∧ (w.setCell ⟨b, 4, none⟩ u).cell? ⟨g, 1, none⟩ = some v1 ∧ (w.setCell ⟨b, 4, none⟩ u).cell? ⟨g, 2, none⟩ = some v2 ∧ (w.setCell ⟨b, 4, none⟩ u).cell? ⟨g, 3, none⟩ = some v3 ∧ (w.setCell ⟨b, 4, none⟩ u).cell? ⟨g, 4, none⟩ = some v4 ∧ (w.setCell ⟨b, 4, none⟩ u).cell? ⟨b, 2, none⟩ = some v5 := by
  have hs : ∀ j, (w.setCell ⟨b, 4, none⟩ u).cell? ⟨g, j, none⟩ = w.cell? ⟨g, j, none⟩ := fun j => World.cell?_of_block (w := w) (Below.heap_setCell w ⟨b, 4, none⟩ u g hg)
  exact ⟨(hs _).trans h.1, (hs _).trans h.2.1, (hs _).trans h.2.2.1, (hs _).trans h.2.2.2.1, (hs _).trans h.2.2.2.2.1, (World.cell?_setCell_other w _ _ u (fun e => by injection e with _ e; omega)).trans h.2.2.2.2.2⟩

section
variable {G : Shape} {n : Nat} {w w' : World} {P : Pl} {f : St}

theorem Get_out (h : Rf G n w P f) (line : Int) (hl : ¬ (0 ≤ line ∧ line < n)) :
    Calls Try.prog 31 #[ptr P.g 0, .int .i64 line] w fun e w' => e = .returned (.tuple #[noLine, .int .i64 2]) ∧ Below w.heap.size w w' := by
  have hb := (Below.refl w.heap.size w).alloc (Nat.le_refl _) (.cells #[.int .i64 0, .int .i64 0, .int .i64 0, .int .i64 0, .int .i64 0] 45)
  obtain ⟨_, _, _, _, _, c5⟩ := (h.below hb).cells
  have HB := Lib.hid hb
  have hn := h.n1
  clear h hb
  by_cases h0 : line < 0
  · clear hl
    go_enter Try.func31, Try.ntmps31
    go_wp2
    refine bodyPost_ret (v := .tuple #[noLine, .int .i64 2]) ?_ rfl ⟨rfl, HB.out⟩
    simp [results, Try.results31, go_sem, noLine]
  · have h1 : ¬ line < n := by omega
    clear hl
    go_enter Try.func31, Try.ntmps31
    go_wp2
    refine bodyPost_ret (v := .tuple #[noLine, .int .i64 2]) ?_ rfl ⟨rfl, HB.out⟩
    simp [results, Try.results31, go_sem, noLine]

set_option maxHeartbeats 4000000 in
theorem Get_in (h : Rf G n w P f) (i : Nat) (hi : i < n) :
    Calls Try.prog 31 #[ptr P.g 0, .int .i64 (i : Int)] w fun e w' => e = .returned (.tuple #[lineV G (f i), .int .i64 0]) ∧ Below w.heap.size w w' := by
  obtain ⟨X, hX⟩ : ∃ X, X = w.alloc (.cells #[.int .i64 0, .int .i64 0, .int .i64 0, .int .i64 0, .int .i64 0] 45) := ⟨_, rfl⟩
  have hb : Below w.heap.size w X := by rw [hX]; exact (Below.refl w.heap.size w).alloc (Nat.le_refl _) _
  have hs : X.heap.size = w.heap.size + 1 := by rw [hX]; simp
  have hnew : X.heap[w.heap.size]? = some (.cells #[.int .i64 0, .int .i64 0, .int .i64 0, .int .i64 0, .int .i64 0] 45 (0, 0)) := by rw [hX]; exact heap_alloc_new w _
  have hp := h.below hb
  obtain ⟨_, _, _, _, _, c5⟩ := hp.cells
  obtain ⟨c0, c1, c2, _⟩ := hp.at hi
  have c3 : X.cell? ⟨P.L, i * 5 + 3, none⟩ = some (.int .i64 0) := (hp.tab.cell i 3 _ hi rfl).1
  have c4 : X.cell? ⟨P.L, i * 5 + 4, none⟩ = some (.int .i64 0) := (hp.tab.cell i 4 _ hi rfl).1
  have hg := h.inv.gd i hi
  have hn := h.n1
  have h1 : (i : Int) < n := by omega
  obtain ⟨Z, hZ⟩ : ∃ Z, Z = X.alloc (.cells #[.int .i64 (f i).st, .int .i64 (f i).wr, .int .i64 (f i).gd, .int .i64 0, .int .i64 0] 45) := ⟨_, rfl⟩
  have hbz : Below X.heap.size X Z := by rw [hZ]; exact (Below.refl X.heap.size X).alloc (Nat.le_refl _) _
  have hnewz : Z.heap[w.heap.size + 1]? = some (.cells #[.int .i64 (f i).st, .int .i64 (f i).wr, .int .i64 (f i).gd, .int .i64 0, .int .i64 0] 45 (0, 0)) := by rw [hZ, ← hs]; exact heap_alloc_new X _
  obtain ⟨k0, k1, k2, k3, k4, _⟩ := (hp.below hbz).cells
  have HR := Lib.hid (fun w => Room_any h.ok (f i).gd hg.1 hg.2 w)
  have HB : Hid (Below w.heap.size w Z.drew) := Lib.hid (below_then hb hbz).drew
  have HN : Hid (Z.drew.heap[w.heap.size]? = some (.cells #[.int .i64 0, .int .i64 0, .int .i64 0, .int .i64 0, .int .i64 0] 45 (0, 0))) := Lib.hid ((hbz.block w.heap.size (by omega)).trans hnew)
  have HM : Hid (Z.drew.heap[w.heap.size + 1]? = some (.cells #[.int .i64 (f i).st, .int .i64 (f i).wr, .int .i64 (f i).gd, .int .i64 0, .int .i64 0] 45 (0, 0))) := Lib.hid hnewz
  obtain ⟨⟨y0, y1, y2, y3, y4⟩, E0, E1, E2, E3, E4⟩ := five_cells HM.out
  have HC : Hid (Z.drew.cell? ⟨P.g, 0, none⟩ = some (.int .i64 G.c) ∧ Z.drew.cell? ⟨P.g, 1, none⟩ = some (.int .i64 G.l) ∧ Z.drew.cell? ⟨P.g, 2, none⟩ = some (.int .i64 G.k) ∧ Z.drew.cell? ⟨P.g, 3, none⟩ = some (.int .i64 G.p) ∧ Z.drew.cell? ⟨P.g, 4, none⟩ = some (.int .i64 G.s) ∧ Z.drew.cell? ⟨w.heap.size + 1, 2, none⟩ = some (.int .i64 (f i).gd)) := Lib.hid ⟨k0, k1, k2, k3, k4, y2⟩
  have HX := Lib.hid hX
  have HNE := Lib.hid (show P.g ≠ w.heap.size + 1 by have := h.ltg; omega)
  have HZ := Lib.hid hZ
  rw [hX] at c5 c0 c1 c2 c3 c4
  clear h hp hb hbz hnew hnewz hi hg hX hZ k0 k1 k2 k3 k4
  unfold lineV
  generalize room G (f i).gd = R at *
  generalize (f i).st = s0 at *
  generalize (f i).wr = s1 at *
  generalize (f i).gd = s2 at *
  go_enter Try.func31, Try.ntmps31
  go_wp2
  rw [← HX.out, ← HZ.out]
  clear c5 c0 c1 c2 c3 c4
  go_region_held (fun w' => w'.cell? ⟨P.g, 0, none⟩ = some (.int .i64 G.c) ∧ w'.cell? ⟨P.g, 1, none⟩ = some (.int .i64 G.l) ∧ w'.cell? ⟨P.g, 2, none⟩ = some (.int .i64 G.k) ∧ w'.cell? ⟨P.g, 3, none⟩ = some (.int .i64 G.p) ∧ w'.cell? ⟨P.g, 4, none⟩ = some (.int .i64 G.s) ∧ w'.cell? ⟨w.heap.size + 1, 2, none⟩ = some (.int .i64 s2))
    (first | exact HC.out | exact six_keep (by assumption) hb | exact six_set (by assumption) HNE.out | go_keep)
    (first | (go_at_call 55; refine (HR.out _).mono ?_; rintro e w2 ⟨rfl, hb⟩; replace HB := Lib.hid (below_then HB.out hb); replace HN := Lib.hid ((hb.block _ (Array.getElem?_eq_some_iff.1 HN.out).1).trans HN.out); replace HM := Lib.hid ((hb.block _ (Array.getElem?_eq_some_iff.1 HM.out).1).trans HM.out); clear y0 y1 y2 y3 y4 E0 E1 E2 E3 E4; obtain ⟨⟨y0, y1, y2, y3, y4⟩, E0, E1, E2, E3, E4⟩ := five_cells HM.out))
  rename_i hHeld
  have hm := four_set (y4 := .int .i64 R) HM.out
  have HN2 : Hid ((w2.setCell ⟨w.heap.size + 1, 4, none⟩ (.int .i64 R)).heap[w.heap.size]? = _) := Lib.hid ((Below.heap_setCell w2 ⟨w.heap.size + 1, 4, none⟩ (.int .i64 R) w.heap.size (by simp)).trans HN.out)
  have HB2 := Lib.hid (HB.out.setCell (p := ⟨w.heap.size + 1, 4, none⟩) (by simp) (.int .i64 R))
  clear hHeld hb y0 y1 y2 y3 y4 E0 E1 E2 E3 E4 HN HB HM
  generalize World.setCell _ _ _ = Y at hm HN2 HB2 ⊢
  obtain ⟨⟨y0, y1, y2, y3, y4⟩, _⟩ := five_cells hm
  obtain ⟨⟨z0, z1, z2, z3, z4⟩, F0, F1, F2, F3, F4⟩ := five_cells HN2.out
  have h5 := five_set (y0 := .int .i64 s0) (y1 := .int .i64 s1) (y2 := .int .i64 s2) (y3 := .int .i64 0) (y4 := .int .i64 R) HN2.out
  have HB5 := Lib.hid (((((HB2.out.setCell (p := ⟨w.heap.size, 0, none⟩) (Nat.le_refl _) (.int .i64 s0)).setCell (p := ⟨w.heap.size, 1, none⟩) (Nat.le_refl _) (.int .i64 s1)).setCell (p := ⟨w.heap.size, 2, none⟩) (Nat.le_refl _) (.int .i64 s2)).setCell (p := ⟨w.heap.size, 3, none⟩) (Nat.le_refl _) (.int .i64 0)).setCell (p := ⟨w.heap.size, 4, none⟩) (Nat.le_refl _) (.int .i64 R))
  have H5 := Lib.hid h5
  clear h5 hm
  go_wp2
  have h5 := H5.out
  clear H5 y0 y1 y2 y3 y4 z0 z1 z2 z3 z4 F0 F1 F2 F3 F4
  generalize World.setCell _ _ _ = V at h5 HB5 ⊢
  obtain ⟨⟨q0, q1, q2, q3, q4⟩, _⟩ := five_cells h5
  refine bodyPost_ret (v := .tuple #[.agg #[.int .i64 s0, .int .i64 s1, .int .i64 s2, .int .i64 0, .int .i64 R], .int .i64 0]) ?_ rfl ⟨rfl, HB5.out⟩
  simp [results, Try.results31, go_sem, q0, q1, q2, q3, q4]
end
end Go.Proofs.Ytnnonkmkdjhacaa.LinesRef
