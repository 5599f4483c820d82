/-
  What the shards of package l2p do: put, for every number.
-/
import Derived.Test.YtpheblblkkclbaaL2pPut
namespace Go.Proofs.Ytpheblblkkclbaa.L2pPkg
open Go.RowKit Go.ChangeShapes
set_option maxRecDepth 4000

theorem putI_any (g o L n : Nat) (a : Nat → Option Nat) (z0 z : Int) (f : Nat → List Value) (i : Nat) (w : World)
    (hf : w.cell? ⟨g, o + 1, none⟩ = some (.int .i64 z0)) (hl : w.cell? ⟨g, o + 2, none⟩ = some (.slice (some ⟨L, 0, none⟩) n n)) (h : Sh w L n a 1 [.int .i64 z0] f) (hn : n ≤ 1024) (hi : i < n * 64) :
    Calls Try.prog 73 #[ptr g o, .int .i64 (i : Int), .int .i64 z] w fun e w' => ∃ a', e = .returned (.tuple #[]) ∧ Sh w' L n a' 1 [.int .i64 z0] (fun k => if k = i then [.int .i64 z] else f k) ∧ Turn (shOwn L n a) (shOwn L n a') w w' := by
  have hi2 : i / 64 < n := by omega
  obtain ⟨hs, hsf⟩ := h.list (i / 64) hi2
  have hw : IntKind.i64.wrap ((i : Int) / 64) = ((i / 64 : Nat) : Int) := by rw [kwrap_is (by omega) (by omega)]; omega
  have hw2 : ((i : Int) / 64).toNat = i / 64 := by omega
  have hw3 : ((i : Int) % 64).toNat = i % 64 := by omega
  cases ha : a (i / 64) with
  | some d =>
    rw [ha] at hs
    have hs2 : w.cell? ⟨L, i / 64, none⟩ = some (.slice (some ⟨d, 0, none⟩) 64 64) := hs
    have hnil : (binOp .eql 54 (.slice (some ⟨d, 0, none⟩) 64 64) (.slice none 0 0)).run Try.prog w = .ok (.bool false) _ := Lib.run_eql_slice_nil _ 54 3 (some ⟨d, 0, none⟩) 64 64 0 0 Try.underlying54
    have hlen := h.len i hi
    obtain ⟨hc1, hc2⟩ := h.yes i d hi ha 0 _ (List.getElem?_eq_getElem (by omega))
    rw [show i % 64 * 1 + 0 = i % 64 by omega] at hc1 hc2
    generalize (f i)[0] = u at hc1
    have HSH := Lib.hid h
    have HT := Lib.hid (show shOwn L n a d from .inr ⟨i / 64, hi2, ha⟩)
    clear h hs hsf hf
    go_enter Try.func73, Try.ntmps73
    go_wp2
    go_end0
    exact ⟨a, rfl, HSH.out.set1 hi ha (.int .i64 z), Turn.of_set HT.out⟩
  | none =>
    rw [ha] at hs
    have hs2 : w.cell? ⟨L, i / 64, none⟩ = some (.slice none 0 0) := hs
    have hnil : (binOp .eql 54 (.slice none 0 0) (.slice none 0 0)).run Try.prog w = .ok (.bool true) _ := Lib.run_eql_slice_nil _ 54 3 none 0 0 0 0 Try.underlying54
    have HB := Lib.hid (blankI_any g o z0 w hf)
    have HSH := Lib.hid h
    have HS := Lib.hid hs
    have HSF := Lib.hid hsf
    clear h hf hsf hs
    go_enter Try.func73, Try.ntmps73
    go_wp2_with fail
    refine HB.out.mono ?_
    rintro e w2 ⟨rfl, hrow, hb⟩
    have hl2 := cell_stays hb hl
    have hc := cell_stays hb hs2
    have hcf := (hb.frozen (World.block_lt_of_cell? _ _ hs2)).trans HSF.out
    have HSH2 := Lib.hid (HSH.out.below hb)
    have hQ : ¬ shOwn L n a w.heap.size := fun h => by have := HSH.out.lt _ h; omega
    have hQL : w.heap.size ≠ L := fun e => hQ (.inl e)
    have hQL2 : L ≠ w.heap.size := fun e => hQL e.symm
    have hq1 := hrow.cell (i := i % 64) (by omega)
    have hq2 := hrow.frozen (i % 64)
    have HROW := Lib.hid hrow
    have HBE := Lib.hid hb
    have HQ := Lib.hid hQ
    clear hrow hb hQ hs2
    go_wp2
    go_end0
    have hfill := HSH2.out.fill (s := i / 64) (Q := w.heap.size) hi2 ha HQ.out (fun r j v hr hv => by
      have hj : j < 1 := (List.getElem?_eq_some_iff.1 hv).1
      obtain rfl : j = 0 := by omega
      obtain rfl : Value.int .i64 z0 = v := by simpa using hv
      have hrc := HROW.out.cell (i := r) hr
      unfold blI at hrc
      rw [if_pos hr] at hrc
      rw [show r * 1 + 0 = r by omega]
      exact ⟨hrc, HROW.out.frozen r⟩)
    exact ⟨upd a (i / 64) w.heap.size, rfl, hfill.set1 hi (upd_same _ _ _) _,
      (((Turn.of_below (shOwn L n a) HBE.out).widen (fun b hb => (shOwn_upd hb).imp id (fun e => by omega))).trans (Turn.of_set (.inl rfl))).trans (Turn.of_set (.inr ⟨i / 64, hi2, upd_same _ _ _⟩))⟩

theorem putE_any (g o L n : Nat) (a : Nat → Option Nat) (x0 y0 z0 x y z : Int) (f : Nat → List Value) (i : Nat) (w : World)
    (hf : w.cell? ⟨g, o + 1, none⟩ = some (.int .i64 x0) ∧ w.cell? ⟨g, o + 2, none⟩ = some (.int .i64 y0) ∧ w.cell? ⟨g, o + 3, none⟩ = some (.int .i64 z0)) (hl : w.cell? ⟨g, o + 4, none⟩ = some (.slice (some ⟨L, 0, none⟩) n n)) (h : Sh w L n a 3 [.int .i64 x0, .int .i64 y0, .int .i64 z0] f) (hn : n ≤ 1024) (hi : i < n * 64) :
    Calls Try.prog 74 #[ptr g o, .int .i64 (i : Int), .agg #[.int .i64 x, .int .i64 y, .int .i64 z]] w fun e w' => ∃ a', e = .returned (.tuple #[]) ∧ Sh w' L n a' 3 [.int .i64 x0, .int .i64 y0, .int .i64 z0] (fun k => if k = i then [.int .i64 x, .int .i64 y, .int .i64 z] else f k) ∧ Turn (shOwn L n a) (shOwn L n a') w w' := by
  have hi2 : i / 64 < n := by omega
  have hw : IntKind.i64.wrap ((i : Int) / 64) = ((i / 64 : Nat) : Int) := by rw [kwrap_is (by omega) (by omega)]; omega
  have hw2 : ((i : Int) / 64).toNat = i / 64 := by omega
  have hw3 : ((i : Int) % 64).toNat = i % 64 := by omega
  obtain ⟨ob, hob⟩ : ∃ ob, ob = Obj.cells #[.int .i64 x, .int .i64 y, .int .i64 z] 30 := ⟨_, rfl⟩
  have hX := (Below.refl w.heap.size w).alloc (Nat.le_refl _) ob
  have hXs : (w.alloc ob).heap.size = w.heap.size + 1 := by simp
  have HTX := Lib.hid (Turn.of_below (shOwn L n a) hX)
  have b0 : (w.alloc ob).cell? ⟨w.heap.size, 0, none⟩ = some (.int .i64 x) := by rw [hob]; simp [World.cell?_alloc_at]
  have b1 : (w.alloc ob).cell? ⟨w.heap.size, 1, none⟩ = some (.int .i64 y) := by rw [hob]; simp [World.cell?_alloc_at]
  have b2 : (w.alloc ob).cell? ⟨w.heap.size, 2, none⟩ = some (.int .i64 z) := by rw [hob]; simp [World.cell?_alloc_at]
  have hLB : L ≠ w.heap.size := fun e => by have := h.lt L (.inl rfl); omega
  have hl := cell_stays hX hl
  have h := h.below hX
  have hf : (w.alloc ob).cell? ⟨g, o + 1, none⟩ = some (.int .i64 x0) ∧ (w.alloc ob).cell? ⟨g, o + 2, none⟩ = some (.int .i64 y0) ∧ (w.alloc ob).cell? ⟨g, o + 3, none⟩ = some (.int .i64 z0) := ⟨cell_stays hX hf.1, cell_stays hX hf.2.1, cell_stays hX hf.2.2⟩
  have HXS := Lib.hid hXs
  clear hX hXs
  obtain ⟨hs, hsf⟩ := h.list (i / 64) hi2
  cases ha : a (i / 64) with
  | some d =>
    rw [ha] at hs
    have hs2 : (w.alloc ob).cell? ⟨L, i / 64, none⟩ = some (.slice (some ⟨d, 0, none⟩) 64 64) := hs
    have hnil : (binOp .eql 72 (.slice (some ⟨d, 0, none⟩) 64 64) (.slice none 0 0)).run Try.prog (w.alloc ob) = .ok (.bool false) _ := Lib.run_eql_slice_nil _ 72 30 (some ⟨d, 0, none⟩) 64 64 0 0 Try.underlying72
    have hlen := h.len i hi
    obtain ⟨c0, z0'⟩ := h.yes i d hi ha 0 _ (List.getElem?_eq_getElem (by omega))
    obtain ⟨c1, z1'⟩ := h.yes i d hi ha 1 _ (List.getElem?_eq_getElem (by omega))
    obtain ⟨c2, z2'⟩ := h.yes i d hi ha 2 _ (List.getElem?_eq_getElem (by omega))
    rw [show i % 64 * 3 + 0 = i % 64 * 3 by omega] at c0 z0'
    generalize (f i)[0] = u0 at c0
    generalize (f i)[1] = u1 at c1
    generalize (f i)[2] = u2 at c2
    have HSH := Lib.hid h
    have HT := Lib.hid (show shOwn L n a d from .inr ⟨i / 64, hi2, ha⟩)
    clear h hs hsf hf HXS
    subst hob
    go_enter Try.func74, Try.ntmps74
    go_wp2
    go_end0
    exact ⟨a, rfl, HSH.out.set3 hi ha (.int .i64 x) (.int .i64 y) (.int .i64 z), HTX.out.trans (((Turn.of_set HT.out).trans (Turn.of_set HT.out)).trans (Turn.of_set HT.out))⟩
  | none =>
    rw [ha] at hs
    have hs2 : (w.alloc ob).cell? ⟨L, i / 64, none⟩ = some (.slice none 0 0) := hs
    have hnil : (binOp .eql 72 (.slice none 0 0) (.slice none 0 0)).run Try.prog (w.alloc ob) = .ok (.bool true) _ := Lib.run_eql_slice_nil _ 72 30 none 0 0 0 0 Try.underlying72
    have HB := Lib.hid (blankE_any g o x0 y0 z0 (w.alloc ob) hf)
    rw [HXS.out] at HB
    have HSH := Lib.hid h
    have HSF := Lib.hid hsf
    clear h hf hsf hs
    have HOB := Lib.hid hob
    have hgo : ∀ w2 : World, Below (w.heap.size + 1) (w.alloc ob) w2 → w2.cell? ⟨w.heap.size, 0, none⟩ = some (.int .i64 x) ∧ w2.cell? ⟨w.heap.size, 1, none⟩ = some (.int .i64 y) ∧ w2.cell? ⟨w.heap.size, 2, none⟩ = some (.int .i64 z) ∧ w2.cell? ⟨g, o + 4, none⟩ = some (.slice (some ⟨L, 0, none⟩) n n) ∧ w2.cell? ⟨L, i / 64, none⟩ = some (.slice none 0 0) ∧ w2.frozen? ⟨L, i / 64, none⟩ = false ∧ Sh w2 L n a 3 [.int .i64 x0, .int .i64 y0, .int .i64 z0] f := by
      rw [← HXS.out]
      intro w2 hb
      exact ⟨cell_stays hb b0, cell_stays hb b1, cell_stays hb b2, cell_stays hb hl, cell_stays hb hs2, (hb.frozen (World.block_lt_of_cell? _ _ hs2)).trans HSF.out, HSH.out.below hb⟩
    have HGO := Lib.hid hgo
    have hQ : ¬ shOwn L n a (w.heap.size + 1) := fun h => by have := HSH.out.lt _ h; rw [HXS.out] at this; omega
    have hQL : w.heap.size + 1 ≠ L := fun e => hQ (.inl e)
    have hQL2 : L ≠ w.heap.size + 1 := fun e => hQL e.symm
    have HQ := Lib.hid hQ
    clear hgo hQ
    subst hob
    go_enter Try.func74, Try.ntmps74
    go_wp2_with fail
    refine HB.out.mono ?_
    rintro e w2 ⟨rfl, hrow, hb⟩
    obtain ⟨b0', b1', b2', hl2, hc, hcf, h2⟩ := HGO.out w2 hb
    have q0 := hrow.cell (i := i % 64 * 3) (by omega)
    have q1 := hrow.cell (i := i % 64 * 3 + 1) (by omega)
    have q2 := hrow.cell (i := i % 64 * 3 + 2) (by omega)
    have y0' := hrow.frozen (i % 64 * 3)
    have y1' := hrow.frozen (i % 64 * 3 + 1)
    have y2' := hrow.frozen (i % 64 * 3 + 2)
    have HSH2 := Lib.hid h2
    have HROW := Lib.hid hrow
    have HBE := Lib.hid hb
    clear hrow hb hs2 h2 b0 b1 b2
    go_wp2
    go_end0
    have hfill := HSH2.out.fill (s := i / 64) (Q := w.heap.size + 1) hi2 ha HQ.out (fun r j v hr hv => by
      have hj : j < 3 := (List.getElem?_eq_some_iff.1 hv).1
      have hrc := HROW.out.cell (i := r * 3 + j) (by omega)
      unfold blE at hrc
      rw [if_pos (by omega)] at hrc
      refine ⟨hrc.trans ?_, HROW.out.frozen _⟩
      have h3 : j = 0 ∨ j = 1 ∨ j = 2 := by omega
      rcases h3 with rfl | rfl | rfl
      · rw [if_pos (by omega)]; simpa using hv
      · rw [if_neg (by omega), if_pos (by omega)]; simpa using hv
      · rw [if_neg (by omega), if_neg (by omega)]; simpa using hv)
    exact ⟨upd a (i / 64) (w.heap.size + 1), rfl, hfill.set3 hi (upd_same _ _ _) _ _ _,
      (((HTX.out.trans (Turn.of_below (shOwn L n a) (HXS.out ▸ HBE.out))).widen (fun b hb => (shOwn_upd hb).imp id (fun e => by omega))).trans (Turn.of_set (.inl rfl))).trans (((Turn.of_set (.inr ⟨i / 64, hi2, upd_same _ _ _⟩)).trans (Turn.of_set (.inr ⟨i / 64, hi2, upd_same _ _ _⟩))).trans (Turn.of_set (.inr ⟨i / 64, hi2, upd_same _ _ _⟩)))⟩

end Go.Proofs.Ytpheblblkkclbaa.L2pPkg
