/-
  What package lines does: New, where it makes lines. Printed by new2.py.
-/
import Derived.Test.YtnnonkmkdjhacaaLinesNew
namespace Go.Proofs.Ytnnonkmkdjhacaa.LinesPkg
open Go.RowKit Go.ChangeShapes Lines
open Nand (Shape upd upd_same upd_other)
set_option maxRecDepth 4000

/-- The lines at first. -/
def start (zs1 zs2 : List Int) : St := fun i => ⟨freeSt (zs1[i]?.getD 0), zs2[i]?.getD 0, zs1[i]?.getD 0⟩

def zeroL : List Value := [.int .i64 0, .int .i64 0, .int .i64 0]

theorem info_rec : (Try.prog.info? 63).map (fun i => (i.zero, i.size, i.bytes)) = some (some (.agg #[.int .i64 0, .int .i64 0, .int .i64 0]), 3, 24) := by kernel_rfl

theorem run_make_rec (n : Nat) (hn : n ≤ 1000000) (w : World) :
    (Instr.makeSlice 59 (.int .i64 (n : Int)) (.int .i64 (n : Int))).run Try.prog w = .ok (.slice (some ⟨w.heap.size, 0, none⟩) n n) (w.alloc (.cells (madeCells #[.int .i64 0, .int .i64 0, .int .i64 0] (n * 3)) 63)) := by
  obtain ⟨i, hi, hzz⟩ := Option.map_eq_some_iff.1 info_rec
  simp only [Prod.mk.injEq] at hzz
  obtain ⟨hz, hs, hb⟩ := hzz
  have := run_make (P := Try.prog) w 59 63 i _ Try.underlying59 hi hz .i64 .i64 (n : Int) (n : Int) (by omega) (Int.le_refl _) (by rw [hb]; omega) (by omega)
  rw [hs] at this
  simpa [Value.cells] using this

theorem made_tab (w : World) (n : Nat) (t : TypeId) : Tab (w.alloc (.cells (madeCells #[.int .i64 0, .int .i64 0, .int .i64 0] (n * 3)) t)) w.heap.size n 3 (fun _ => zeroL) := by
  have hnew := heap_alloc_new w (.cells (madeCells #[.int .i64 0, .int .i64 0, .int .i64 0] (n * 3)) t)
  refine ⟨fun i j v hi hv => ⟨?_, by simp only [World.frozen?, hnew]; simp⟩, fun _ _ => rfl⟩
  have hj : j < 3 := (List.getElem?_eq_some_iff.1 hv).1
  have hlt : i * 3 + j < n * 3 := by omega
  have hz : v = .int .i64 0 := by
    rcases (show j = 0 ∨ j = 1 ∨ j = 2 by omega) with rfl | rfl | rfl <;> (simp [zeroL] at hv; exact hv.symm)
  subst hz
  have hr : (Array.range (n * 3))[i * 3 + j]? = some (i * 3 + j) := by simp [hlt]
  have hm : (madeCells #[.int .i64 0, .int .i64 0, .int .i64 0] (n * 3))[i * 3 + j]? = some (.int .i64 0) := by
    simp only [madeCells, Array.getElem?_map, hr]
    have h3 : (i * 3 + j) % 3 = 0 ∨ (i * 3 + j) % 3 = 1 ∨ (i * 3 + j) % 3 = 2 := by omega
    rcases h3 with h | h | h <;> simp [h]
  simp only [World.cell?, hnew]
  exact hm

theorem Tab.row3 {w : World} {L n : Nat} {row : Nat → List Value} (h : Tab w L n 3 row) {i : Nat} (hi : i < n) (x y z : Value) :
    Tab (((w.setCell ⟨L, i * 3, none⟩ x).setCell ⟨L, i * 3 + 1, none⟩ y).setCell ⟨L, i * 3 + 2, none⟩ z) L n 3 (fun k => if k = i then [x, y, z] else row k) := by
  have h3 := (((h.set hi (show 0 < 3 by omega) x).set hi (show 1 < 3 by omega) y).set hi (show 2 < 3 by omega) z)
  refine h3.congr fun k _ => ?_
  by_cases e : k = i
  · have hl := h.len i hi
    match hr : row i, hl with
    | [a, b, c], _ =>
      subst e
      simp
  · simp [e]

/-- free, of a row that is known. -/
theorem free_tab {w : World} {L n : Nat} {row : Nat → List Value} (h : Tab w L n 3 row) {i : Nat} (hi : i < n) (s x g : Int) (hr : row i = [.int .i64 s, .int .i64 x, .int .i64 g]) :
    Calls Try.prog 27 #[ptr L (i * 3)] w fun e w' => e = .returned (.tuple #[]) ∧ Tab w' L n 3 (fun k => if k = i then lnL [] ⟨freeSt g, x, g⟩ else row k) ∧ w.grownBy w' (some L) := by
  have c0 := h.cell i 0 (.int .i64 s) hi (by rw [hr]; rfl)
  have c2 := h.cell i 2 (.int .i64 g) hi (by rw [hr]; rfl)
  refine (free_any L (i * 3) _ g w c0.1 c0.2 c2.1).mono ?_
  rintro e w2 ⟨rfl, hw⟩
  refine ⟨rfl, ?_⟩
  by_cases hg : g = 0
  · rw [if_pos hg] at hw
    subst hw
    refine ⟨((h.set hi (show 0 < 3 by omega) (.int .i64 0)).set hi (show 0 < 3 by omega) (.int .i64 3)).congr fun k _ => ?_, grown_trans (grown_setCell _ _ _) (grown_setCell _ _ _)⟩
    by_cases e : k = i
    · simp [e, hr, lnL, freeSt, hg]
    · simp [e]
  · rw [if_neg hg] at hw
    subst hw
    refine ⟨(h.set hi (show 0 < 3 by omega) (.int .i64 0)).congr fun k _ => ?_, grown_setCell _ _ _⟩
    by_cases e : k = i
    · simp [e, hr, lnL, freeSt, hg]
    · simp [e]

theorem six_of {w : World} {b : Nat} {x0 x1 x2 x3 x4 x5 : Value} {t : TypeId} (h : w.heap[b]? = some (.cells #[x0, x1, x2, x3, x4, x5] t (0, 0))) : w.cell? ⟨b, 5, none⟩ = some x5 := by simp [World.cell?, h]

/-- The rows of which the first k are laid. -/
def laid (zs1 zs2 : List Int) (k : Nat) : Nat → List Value := fun i => if i < k then lnL [] (start zs1 zs2 i) else zeroL

theorem laid_step (zs1 zs2 : List Int) (k : Nat) {x g : Int} (hg : zs1[k]? = some g) (hx : zs2[k]? = some x) : ∀ i, (if i = k then lnL [] ⟨freeSt g, x, g⟩ else laid zs1 zs2 k i) = laid zs1 zs2 (k + 1) i := by
  intro i
  unfold laid
  by_cases e : i = k
  · subst e
    rw [if_pos rfl, if_pos (by omega)]
    unfold start
    rw [hg, hx]
    rfl
  · rw [if_neg e]
    by_cases h : i < k
    · rw [if_pos h, if_pos (by omega)]
    · rw [if_neg h, if_neg (by omega)]

set_option maxHeartbeats 4000000 in
theorem New_ok {G : Shape} (hG : G.Ok) (A1 : Option Addr) (n c1 : Nat) (A2 : Option Addr) (c2 : Nat) (zs1 zs2 : List Int) (w : World) (hr1 : Nums w w.heap.size A1 n zs1) (h1 : fine n G.k zs1 G.U) (hr2 : Nums w w.heap.size A2 n zs2) (h2 : fine n G.k zs2 2147483647) :
    Calls Try.prog 10 #[.agg #[.int .i64 G.c, .int .i64 G.l, .int .i64 G.k, .int .i64 G.p, .int .i64 G.s], .slice A1 n c1, .slice A2 n c2] w fun e w' => ∃ P : Pl, e = .returned (.tuple #[ptr P.g 0, .int .i64 0]) ∧ Lp G n w' P (start zs1 zs2) ∧ (∀ b, P.own b → w.heap.size ≤ b) ∧ Below w.heap.size w w' := by
  have hm := hG.may
  unfold Geom.ok at hm
  have hnk := h1.1
  have hn0 : 0 < n := by omega
  have hn64 : n ≤ 64 := by omega
  have hn1 : (n : Int) = G.k → n ≤ 1000000000000 := fun _ => by omega
  have hn2 : (n : Int) = G.k → n ≤ 1000000000000 := fun _ => by omega
  have hb0 := (Below.refl w.heap.size w).alloc (Nat.le_refl _) (.cells #[.int .i64 G.c, .int .i64 G.l, .int .i64 G.k, .int .i64 G.p, .int .i64 G.s] 23)
  have HB := Lib.hid hb0.drew
  have HGEO : Hid (Geo (w.alloc (.cells #[.int .i64 G.c, .int .i64 G.l, .int .i64 G.k, .int .i64 G.p, .int .i64 G.s] 23)).drew w.heap.size G.c G.l G.k G.p G.s) := Lib.hid (geo_new w 23 G.c G.l G.k G.p G.s)
  have HR := Lib.hid (fun w => right_ok hG.may w)
  have HU := Lib.hid (fun w => Units_ok hG w)
  have H1 := Lib.hid (fun (w' : World) (hb : Below w.heap.size w w') => are_yes G.c G.l G.k G.p G.s G.U A1 n c1 zs1 w' hn1 (nums_more (nums_keep hr1 hb) hb.size) h1)
  have H2 := Lib.hid (fun (w' : World) (hb : Below w.heap.size w w') => are_yes G.c G.l G.k G.p G.s 2147483647 A2 n c2 zs2 w' hn2 (nums_more (nums_keep hr2 hb) hb.size) h2)
  have HR1 := Lib.hid hr1
  have HR2 := Lib.hid hr2
  have HG := Lib.hid hG
  have HF1 := Lib.hid h1
  have HF2 := Lib.hid h2
  have HNK := Lib.hid hnk
  clear hG h1 h2 hr1 hr2 hb0 hm hnk hn1 hn2
  go_enter Try.func10, Try.ntmps10
  go_wp2_with fail
  refine wp_region_held_drew (S := (fun w' => w'.cell? ⟨w.heap.size, 0, none⟩ = some (.int .i64 G.c) ∧ w'.cell? ⟨w.heap.size, 1, none⟩ = some (.int .i64 G.l) ∧ w'.cell? ⟨w.heap.size, 2, none⟩ = some (.int .i64 G.k) ∧ w'.cell? ⟨w.heap.size, 3, none⟩ = some (.int .i64 G.p) ∧ w'.cell? ⟨w.heap.size, 4, none⟩ = some (.int .i64 G.s))) (by kernel_rfl) ?_ (fun hHeld => ?_)
  · exact HGEO.out
  refine Hand.held_take (i := 0) (d := 10) (v := ?_) rfl rfl (by kernel_rfl) (by kernel_rfl) (by kernel_rfl) (by rfl) ?_ (by assumption) (fun _ _ _ h => h) ?_
  rotate_left
  · intro w hSw
    go_simp
    with_reducible rfl
  try simp only [Act.put, List.setIfInBounds_toArray, List.set_cons_zero, List.set_cons_succ]
  refine wpAnyH_ready (rs := [1]) (by kernel_rfl) (by simp) ?_
  refine AllReadyH.cons rfl (fun K hK => ?_) AllReadyH.nil
  go_simp
  go_wp2_with (refine (HR.out _).mono ?_; rintro e w2 ⟨rfl, hb⟩; replace HB := Lib.hid (below_then HB.out hb))
  refine hK.out _ _ ?_ (fun hHeld => ?_)
  · exact geo_keep (by assumption) hb
  clear hK K
  clear hb
  refine Hand.held_take (i := 2) (d := 12) (v := ?_) rfl rfl (by kernel_rfl) (by kernel_rfl) (by kernel_rfl) (by rfl) ?_ (by assumption) (fun _ _ _ h => h) ?_
  rotate_left
  · intro w hSw
    go_simp
    with_reducible rfl
  try simp only [Act.put, List.setIfInBounds_toArray, List.set_cons_zero, List.set_cons_succ]
  refine Hand.held_take (i := 3) (d := 13) (v := ?_) rfl rfl (by kernel_rfl) (by kernel_rfl) (by kernel_rfl) (by rfl) ?_ (by assumption) (fun _ _ _ h => h) ?_
  rotate_left
  · intro w hSw
    go_simp
    with_reducible rfl
  try simp only [Act.put, List.setIfInBounds_toArray, List.set_cons_zero, List.set_cons_succ]
  refine Hand.held_take (i := 4) (d := 14) (v := ?_) rfl rfl (by kernel_rfl) (by kernel_rfl) (by kernel_rfl) (by rfl) ?_ (by assumption) (fun _ _ _ h => h) ?_
  rotate_left
  · intro w hSw
    go_simp
    with_reducible rfl
  try simp only [Act.put, List.setIfInBounds_toArray, List.set_cons_zero, List.set_cons_succ]
  refine Hand.held_take (i := 5) (d := 15) (v := ?_) rfl rfl (by kernel_rfl) (by kernel_rfl) (by kernel_rfl) (by rfl) ?_ (by assumption) (fun _ _ _ h => h) ?_
  rotate_left
  · intro w hSw
    go_simp
    with_reducible rfl
  try simp only [Act.put, List.setIfInBounds_toArray, List.set_cons_zero, List.set_cons_succ]
  refine Hand.held_take (i := 6) (d := 16) (v := ?_) rfl rfl (by kernel_rfl) (by kernel_rfl) (by kernel_rfl) (by rfl) ?_ (by assumption) (fun _ _ _ h => h) ?_
  rotate_left
  · intro w hSw
    go_simp
    with_reducible rfl
  try simp only [Act.put, List.setIfInBounds_toArray, List.set_cons_zero, List.set_cons_succ]
  refine wpAnyH_ready (rs := [7]) (by kernel_rfl) (by simp) ?_
  refine AllReadyH.cons rfl (fun K hK => ?_) AllReadyH.nil
  go_simp
  go_wp2_with (refine (HU.out _).mono ?_; rintro e w3 ⟨rfl, hb⟩; replace HB := Lib.hid (below_then HB.out hb))
  refine hK.out _ _ ?_ (fun hHeld => ?_)
  · exact geo_keep (by assumption) hb
  clear hK K
  clear hb
  refine wpAnyH_ready (rs := [8]) (by kernel_rfl) (by simp) ?_
  refine AllReadyH.cons rfl (fun K hK => ?_) AllReadyH.nil
  go_simp
  go_wp2_with (refine (H1.out _ HB.out).mono ?_; rintro e w4 ⟨rfl, hb⟩; replace HB := Lib.hid (below_then HB.out hb))
  refine hK.out _ _ ?_ (fun hHeld => ?_)
  · exact geo_keep (by assumption) hb
  clear hK K
  clear hb
  refine Hand.held_take (i := 9) (d := 19) (v := ?_) rfl rfl (by kernel_rfl) (by kernel_rfl) (by kernel_rfl) (by rfl) ?_ (by assumption) (fun _ _ _ h => h) ?_
  rotate_left
  · intro w hSw
    go_simp
    with_reducible rfl
  try simp only [Act.put, List.setIfInBounds_toArray, List.set_cons_zero, List.set_cons_succ]
  refine Hand.held_take (i := 10) (d := 20) (v := ?_) rfl rfl (by kernel_rfl) (by kernel_rfl) (by kernel_rfl) (by rfl) ?_ (by assumption) (fun _ _ _ h => h) ?_
  rotate_left
  · intro w hSw
    go_simp
    with_reducible rfl
  try simp only [Act.put, List.setIfInBounds_toArray, List.set_cons_zero, List.set_cons_succ]
  refine Hand.held_take (i := 11) (d := 21) (v := ?_) rfl rfl (by kernel_rfl) (by kernel_rfl) (by kernel_rfl) (by rfl) ?_ (by assumption) (fun _ _ _ h => h) ?_
  rotate_left
  · intro w hSw
    go_simp
    with_reducible rfl
  try simp only [Act.put, List.setIfInBounds_toArray, List.set_cons_zero, List.set_cons_succ]
  refine Hand.held_take (i := 12) (d := 22) (v := ?_) rfl rfl (by kernel_rfl) (by kernel_rfl) (by kernel_rfl) (by rfl) ?_ (by assumption) (fun _ _ _ h => h) ?_
  rotate_left
  · intro w hSw
    go_simp
    with_reducible rfl
  try simp only [Act.put, List.setIfInBounds_toArray, List.set_cons_zero, List.set_cons_succ]
  refine Hand.held_take (i := 13) (d := 23) (v := ?_) rfl rfl (by kernel_rfl) (by kernel_rfl) (by kernel_rfl) (by rfl) ?_ (by assumption) (fun _ _ _ h => h) ?_
  rotate_left
  · intro w hSw
    go_simp
    with_reducible rfl
  try simp only [Act.put, List.setIfInBounds_toArray, List.set_cons_zero, List.set_cons_succ]
  refine wpAnyH_ready (rs := [14]) (by kernel_rfl) (by simp) ?_
  refine AllReadyH.cons rfl (fun K hK => ?_) AllReadyH.nil
  go_simp
  go_wp2_with (refine (H2.out _ HB.out).mono ?_; rintro e w5 ⟨rfl, hb⟩; replace HB := Lib.hid (below_then HB.out hb))
  refine hK.out _ _ ?_ (fun hHeld => ?_)
  · exact geo_keep (by assumption) hb
  clear hK K
  clear hb
  refine Hand.held_take (i := 15) (d := 25) (v := ?_) rfl rfl (by kernel_rfl) (by kernel_rfl) (by kernel_rfl) (by rfl) ?_ (by assumption) (fun _ _ _ h => h) ?_
  rotate_left
  · intro w hSw
    go_simp
    with_reducible rfl
  try simp only [Act.put, List.setIfInBounds_toArray, List.set_cons_zero, List.set_cons_succ]
  refine Hand.held_take (i := 16) (d := 26) (v := ?_) rfl rfl (by kernel_rfl) (by kernel_rfl) (by kernel_rfl) (by rfl) ?_ (by assumption) (fun _ _ _ h => h) ?_
  rotate_left
  · intro w hSw
    go_simp
    with_reducible rfl
  try simp only [Act.put, List.setIfInBounds_toArray, List.set_cons_zero, List.set_cons_succ]
  refine wpAnyH_done (by kernel_rfl) ?_ _
  have HGE := Lib.hid hHeld
  clear hHeld
  obtain ⟨k0, k1, k2, k3, k4⟩ := HGE.out
  have k0d : w5.drew.cell? ⟨w.heap.size, 0, none⟩ = some (.int .i64 G.c) := k0
  have k1d : w5.drew.cell? ⟨w.heap.size, 1, none⟩ = some (.int .i64 G.l) := k1
  have k2d : w5.drew.cell? ⟨w.heap.size, 2, none⟩ = some (.int .i64 G.k) := k2
  have k3d : w5.drew.cell? ⟨w.heap.size, 3, none⟩ = some (.int .i64 G.p) := k3
  have k4d : w5.drew.cell? ⟨w.heap.size, 4, none⟩ = some (.int .i64 G.s) := k4
  obtain ⟨ob, hob⟩ : ∃ ob, ob = Obj.cells (madeCells #[.int .i64 0, .int .i64 0, .int .i64 0] (n * 3)) 63 := ⟨_, rfl⟩
  have hmk : ∀ w : World, (Instr.makeSlice 59 (.int .i64 G.k) (.int .i64 G.k)).run Try.prog w = .ok (.slice (some ⟨w.heap.size, 0, none⟩) n n) (w.alloc ob) := fun w => by rw [← HNK.out, hob]; exact run_make_rec n (by omega) w
  have HTAB := Lib.hid (fun w : World => show Tab (w.alloc ob) w.heap.size n 3 (fun _ => zeroL) by rw [hob]; exact made_tab w n _)
  clear hob
  have hal : Below w5.heap.size w5 (w5.alloc ob) := (Below.refl _ _).alloc (Nat.le_refl _) _
  have m0 := cell_stays hal k0
  have m1 := cell_stays hal k1
  have m2 := cell_stays hal k2
  have m3 := cell_stays hal k3
  have m4 := cell_stays hal k4
  clear hal
  go_wp2
  go_region
  obtain ⟨L, hL⟩ : ∃ L, L = w5.heap.size := ⟨_, rfl⟩
  have HHD : Hid ((((w5.alloc ob).alloc (.cells #[.int .i64 G.c, .int .i64 G.l, .int .i64 G.k, .int .i64 G.p, .int .i64 G.s, .slice (some ⟨w5.heap.size, 0, none⟩) n n] 61)).drew).heap[w5.heap.size + 1]? = some (.cells #[.int .i64 G.c, .int .i64 G.l, .int .i64 G.k, .int .i64 G.p, .int .i64 G.s, .slice (some ⟨w5.heap.size, 0, none⟩) n n] 61 (0, 0))) := Lib.hid (by
    have := heap_alloc_new (w5.alloc ob) (.cells #[.int .i64 G.c, .int .i64 G.l, .int .i64 G.k, .int .i64 G.p, .int .i64 G.s, .slice (some ⟨w5.heap.size, 0, none⟩) n n] 61)
    rw [World.size_alloc] at this
    exact this)
  have HTB : Hid (Tab (((w5.alloc ob).alloc (.cells #[.int .i64 G.c, .int .i64 G.l, .int .i64 G.k, .int .i64 G.p, .int .i64 G.s, .slice (some ⟨w5.heap.size, 0, none⟩) n n] 61)).drew) w5.heap.size n 3 (laid zs1 zs2 0)) := Lib.hid (Tab.congr (row := fun _ => zeroL) (Tab.keep (w := w5.alloc ob) (HTAB.out w5) (Below.heap_alloc (w5.alloc ob) (.cells #[.int .i64 G.c, .int .i64 G.l, .int .i64 G.k, .int .i64 G.p, .int .i64 G.s, .slice (some ⟨w5.heap.size, 0, none⟩) n n] 61) w5.heap.size (by simp))) (fun i _ => by unfold laid; rw [if_neg (by omega)]))
  have HBX := Lib.hid (((HB.out.alloc HB.out.size ob).alloc (by have := HB.out.size; simp; omega) (.cells #[.int .i64 G.c, .int .i64 G.l, .int .i64 G.k, .int .i64 G.p, .int .i64 G.s, .slice (some ⟨w5.heap.size, 0, none⟩) n n] 61)).drew)
  have HLW := Lib.hid (show w.heap.size ≤ L by rw [hL]; exact HB.out.size)
  rw [← hL] at HHD HTB HBX ⊢
  generalize World.drew _ = X at HHD HTB HBX ⊢
  clear k0 k1 k2 k3 k4 k0d k1d k2d k3d k4d m0 m1 m2 m3 m4 hmk HTAB hL HGE HB
  have hdc := six_of HHD.out
  go_wp2
  go_loopw [9, 38] (fun _ i wr => ∃ k : Nat, i = .int .i64 (k : Int) ∧ k ≤ n ∧ Tab wr L n 3 (laid zs1 zs2 k) ∧ wr.heap[L + 1]? = some (.cells #[.int .i64 G.c, .int .i64 G.l, .int .i64 G.k, .int .i64 G.p, .int .i64 G.s, .slice (some ⟨L, 0, none⟩) n n] 61 (0, 0)) ∧ Below w.heap.size w wr) (fun _ i _ => n - (intOf i).toNat)
  case atStart => exact ⟨0, rfl, Nat.zero_le _, HTB.out, HHD.out, HBX.out⟩
  case round =>
    obtain ⟨k, rfl, hk, htab, hhd, hbw⟩ := hrel
    have HT := Lib.hid htab
    have HH := Lib.hid hhd
    have HW := Lib.hid hbw
    have hsl := six_of hhd
    clear htab hhd hbw hdc
    by_cases hlt : k < n
    · have hlt' : (k : Int) < n := by omega
      obtain ⟨b1, o1, z1, rfl, hb1, hz1, e1, _⟩ := (nums_keep HR1.out HW.out).at_ hlt
      obtain ⟨b2, o2, z2, rfl, hb2, hz2, e2, _⟩ := (nums_keep HR2.out HW.out).at_ hlt
      have hrow : laid zs1 zs2 k k = zeroL := by unfold laid; rw [if_neg (by omega)]
      obtain ⟨x0, y0⟩ := HT.out.cell k 0 (.int .i64 0) hlt (by rw [hrow]; rfl)
      obtain ⟨x1, y1⟩ := HT.out.cell k 1 (.int .i64 0) hlt (by rw [hrow]; rfl)
      obtain ⟨x2, y2⟩ := HT.out.cell k 2 (.int .i64 0) hlt (by rw [hrow]; rfl)
      rw [Nat.add_zero] at x0 y0
      have HT3 := Lib.hid (HT.out.row3 hlt (.int .i64 0) (.int .i64 z2) (.int .i64 z1))
      have HZ1 := Lib.hid hz1
      have HZ2 := Lib.hid hz2
      clear hrow hz1 hz2
      have hsld : wr.drew.cell? ⟨L + 1, 5, none⟩ = some (.slice (some ⟨L, 0, none⟩) n n) := hsl
      have e1d : wr.drew.cell? ⟨b1, o1 + k, none⟩ = some (.int .i64 z1) := e1
      have e2d : wr.drew.cell? ⟨b2, o2 + k, none⟩ = some (.int .i64 z2) := e2
      go_wp2_with fail
      go_region
      have HT4 : Hid (Tab ((((wr.setCell ⟨L, k * 3, none⟩ (.int .i64 0)).setCell ⟨L, k * 3 + 1, none⟩ (.int .i64 z2)).setCell ⟨L, k * 3 + 2, none⟩ (.int .i64 z1)).drew) L n 3 (fun i => if i = k then [.int .i64 0, .int .i64 z2, .int .i64 z1] else laid zs1 zs2 k i)) := Lib.hid (HT3.out.keep rfl)
      have HH4 : Hid (((((wr.setCell ⟨L, k * 3, none⟩ (.int .i64 0)).setCell ⟨L, k * 3 + 1, none⟩ (.int .i64 z2)).setCell ⟨L, k * 3 + 2, none⟩ (.int .i64 z1)).drew).heap[L + 1]? = some (.cells #[.int .i64 G.c, .int .i64 G.l, .int .i64 G.k, .int .i64 G.p, .int .i64 G.s, .slice (some ⟨L, 0, none⟩) n n] 61 (0, 0))) := Lib.hid
        ((Below.heap_setCell _ ⟨L, k * 3 + 2, none⟩ _ (L + 1) (by simp)).trans ((Below.heap_setCell _ ⟨L, k * 3 + 1, none⟩ _ (L + 1) (by simp)).trans ((Below.heap_setCell _ ⟨L, k * 3, none⟩ _ (L + 1) (by simp)).trans HH.out)))
      have HW4 := Lib.hid ((((HW.out.setCell (p := ⟨L, k * 3, none⟩) HLW.out (.int .i64 0)).setCell (p := ⟨L, k * 3 + 1, none⟩) HLW.out (.int .i64 z2)).setCell (p := ⟨L, k * 3 + 2, none⟩) HLW.out (.int .i64 z1)).drew)
      generalize World.drew _ = Y at HT4 HH4 HW4 ⊢
      clear x0 x1 x2 y0 y1 y2 hsld e1d e2d e1 e2 hsl HT3
      have HFR := Lib.hid (free_tab HT4.out hlt 0 z2 z1 (if_pos rfl))
      have hsl := six_of HH4.out
      go_wp2_with fail
      refine HFR.out.mono ?_
      rintro e w7 ⟨rfl, ht, hg⟩
      have HT7 := Lib.hid ht
      have HH7 := Lib.hid ((hg.block (L + 1) (Array.getElem?_eq_some_iff.1 HH4.out).1 (by simp)).trans HH4.out)
      have HW7 := Lib.hid (HW4.out.grown hg HW4.out.size (fun j e => by injection e with e; rw [← e]; exact HLW.out))
      clear ht hg hsl
      go_wp2
      go_roundw
      case measure => simp [intOf]; omega
      case rel =>
        refine ⟨k + 1, by go_num, by omega, HT7.out.congr fun i _ => ?_, HH7.out, HW7.out⟩
        rw [← laid_step zs1 zs2 k HZ1.out HZ2.out]
        by_cases e : i = k
        · rw [if_pos e, if_pos e]
        · rw [if_neg e, if_neg e, if_neg e]
    · obtain rfl : k = n := by omega
      have HLS : Hid (Lp G k wr ⟨L + 1, L, k⟩ (start zs1 zs2)) := Lib.hid ⟨HH.out, HT.out.congr fun i hi => by unfold laid; rw [if_pos hi], by simp, inv_new _ _ k G.U (fun i hi => ?_) (fun i hi => ?_), hn0, HNK.out, HG.out, Nat.le_refl _, by show k ≤ maxLen; unfold maxLen; omega⟩
      rotate_left
      · have hl := HR1.out.1
        have h1 : zs1[i]? = some zs1[i] := List.getElem?_eq_getElem (by omega)
        rw [h1]
        exact HF1.out.2 _ (List.mem_of_getElem? h1)
      · have hl := HR2.out.1
        have h1 : zs2[i]? = some zs2[i] := List.getElem?_eq_getElem (by omega)
        rw [h1]
        exact HF2.out.2 _ (List.mem_of_getElem? h1)
      go_wp2
      go_ret2
      exact ⟨⟨L + 1, L, k⟩, rfl, HLS.out, fun b hb => hb.elim (fun e => by rw [e]; exact Nat.le_trans HLW.out (Nat.le_succ _)) (fun e => by rw [e]; exact HLW.out), HW.out⟩

end Go.Proofs.Ytnnonkmkdjhacaa.LinesPkg
