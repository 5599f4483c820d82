/-
  What the small functions of package nand do.
-/
import Derived.Test.YtlmdlhfdacmcnaaNandDev
import Derived.Deep.DeepCutAuto
namespace Go.Proofs.Ytlmdlhfdacmcnaa.NandPkg
open Go.RowKit Nand
set_option maxRecDepth 4000

abbrev ptr (g : Nat) : Value := .pointer (some ⟨g, 0, none⟩)

abbrev geoV (G : Shape) : Value := .agg #[.int .i64 G.c, .int .i64 G.l, .int .i64 G.k, .int .i64 G.p, .int .i64 G.s]

section
variable {G : Shape} {w : World} {P : Pl} {st : St}

theorem Off_any (h : Dev G w P st) : Calls Try.prog 19 #[ptr P.g] w fun e w' => e = .returned (.bool st.off) ∧ w' = w := by
  have hc := h.cells.1
  clear h
  go_enter Try.func19, Try.ntmps19
  go_wp2
  go_ret
  exact ⟨rfl, rfl⟩

theorem Wrong_any (h : Dev G w P st) : Calls Try.prog 20 #[ptr P.g] w fun e w' => e = .returned (.int .i64 st.wrong) ∧ w' = w := by
  have hc := h.cells.2.2.2.2.2.2.2.2.2
  clear h
  go_enter Try.func20, Try.ntmps20
  go_wp2
  go_ret
  exact ⟨rfl, rfl⟩

theorem Power_any (h : Dev G w P st) : Calls Try.prog 32 #[ptr P.g] w fun e w' => e = .returned (.tuple #[]) ∧ Dev G w' P { st with off := false } ∧ Turn P.own P.own w w' := by
  have hc := h.cells.1
  have hf := h.free 0
  have H := Lib.hid h
  clear h
  go_enter Try.func32, Try.ntmps32
  go_wp2
  go_end0
  exact ⟨rfl, H.out.set_off _, Turn.of_grown (grown_setCell _ _ _) P.own_g⟩

theorem lose_any (h : Dev G w P st) : Calls Try.prog 54 #[ptr P.g] w fun e w' => e = .returned (.tuple #[]) ∧ Dev G w' P { st with off := true } ∧ Turn P.own P.own w w' := by
  have hc := h.cells.1
  have hf := h.free 0
  have H := Lib.hid h
  clear h
  go_enter Try.func54, Try.ntmps54
  go_wp2
  go_end0
  exact ⟨rfl, H.out.set_off _, Turn.of_grown (grown_setCell _ _ _) P.own_g⟩

theorem refuse_any (h : Dev G w P st) (x : Int) : Calls Try.prog 50 #[ptr P.g, .int .i64 x] w fun e w' => e = .returned (.int .i64 x) ∧ Dev G w' P st.refused ∧ Turn P.own P.own w w' := by
  have hc := h.cells.2.2.2.2.2.2.2.2.2
  have hf := h.free 9
  have H := Lib.hid h
  clear h
  go_enter Try.func50, Try.ntmps50
  go_wp2
  go_ret
  exact ⟨rfl, H.out.set_wrong _, Turn.of_grown (grown_setCell _ _ _) P.own_g⟩

theorem Geometry_any (h : Dev G w P st) : Calls Try.prog 18 #[ptr P.g] w fun e w' => e = .returned (geoV G) ∧ Below w.heap.size w w' := by
  have hlt := h.g_lt
  obtain ⟨_, h1, h2, h3, h4, h5, _⟩ := h.cells
  clear h
  go_enter Try.func18, Try.ntmps18
  go_wp2
  obtain ⟨P0, P1, P2, P3, P4⟩ := geo_new w 23 G.c G.l G.k G.p G.s
  refine bodyPost_ret (v := geoV G) ?_ rfl ⟨rfl, (Below.refl w.heap.size w).alloc (Nat.le_refl _) _⟩
  simp [results, Try.results18, go_sem, P0, P1, P2, P3, P4]

theorem below_yes (x y : Int) (h0 : 0 ≤ x) (h1 : x < y) (w : World) : Calls Try.prog 39 #[.int .i64 x, .int .i64 y] w fun e w' => e = .returned (.bool true) ∧ w' = w := by
  go_enter Try.func39, Try.ntmps39
  go_wp2
  go_ret
  exact ⟨rfl, rfl⟩

theorem below_no (x y : Int) (h : ¬ (0 ≤ x ∧ x < y)) (w : World) : Calls Try.prog 39 #[.int .i64 x, .int .i64 y] w fun e w' => e = .returned (.bool false) ∧ w' = w := by
  by_cases h0 : 0 ≤ x
  · have h1 : decide (x < y) = false := by simp; omega
    clear h
    go_enter Try.func39, Try.ntmps39
    go_wp2
    go_ret
    exact ⟨rfl, rfl⟩
  · have h1 : decide (0 ≤ x) = false := by simp; omega
    clear h
    go_enter Try.func39, Try.ntmps39
    go_wp2
    go_ret
    exact ⟨rfl, rfl⟩

theorem Plan_any (h : Dev G w P st) (A : Option Addr) (n c B : Nat) (xs : List UInt8) (hn : n ≤ 100000000000000) (hr : Bytes w B A n xs) (hB : B ≤ w.heap.size) :
    Calls Try.prog 31 #[ptr P.g, .slice A n c] w fun e w' => e = .returned (.tuple #[]) ∧ ∃ P', P'.g = P.g ∧ Dev G w' P' { st with plan := xs, many := 0 } ∧ Turn P.own P'.own w w' := by
  have HC := Lib.hid (PlanPkg.New_any A n c B xs w hn hr hB)
  have H := Lib.hid h
  clear h hr
  go_enter Try.func31, Try.ntmps31
  go_wp2_with fail
  refine HC.out.mono ?_
  rintro e w2 ⟨g, rfl, hg, hp, hb⟩
  have hd := H.out.below hb
  have hc := hd.cells.2.2.2.2.2.2.1
  have hf := hd.free 6
  have HP := Lib.hid hp
  have HB := Lib.hid hb
  have HD := Lib.hid hd
  have HG := Lib.hid hg
  clear hp hb hd hg
  go_wp2
  go_end0
  have hn : ∀ b, w.heap.size ≤ b → b ≤ g → ¬ P.own b := fun b h1 _ ho => by have := H.out.lt b ho; omega
  have hg2 := grown_setCell w2 ⟨P.g, 6, none⟩ (ptr g)
  refine ⟨rfl, { P with lo := w.heap.size, gp := g }, rfl, HD.out.set_plan HP.out HG.out hn, ((Turn.of_below _ HB.out).trans (Turn.of_grown hg2 P.own_g)).widen fun b hb => ?_⟩
  rcases hb with hb | hb | hb | hb | hb
  · exact Or.inl (Or.inl hb)
  · exact Or.inl (Or.inr (Or.inl hb))
  · exact Or.inl (Or.inr (Or.inr (Or.inl hb)))
  · exact Or.inr hb.1
  · exact Or.inl (P.own_d hb)

theorem block_ok (hG : G.Ok) (h : Dev G w P st) (u b : Int) (hh : has G u b) :
    Calls Try.prog 51 #[ptr P.g, .int .i64 u, .int .i64 b] w fun e w' => e = .returned (.pointer (some ⟨P.gb, blk G u b * 3, none⟩)) ∧ Below w.heap.size w w' := by
  obtain ⟨_, h1, h2, h3, h4, h5, _, h7, _⟩ := h.cells
  have HU := Lib.hid (fun w => Units_ok hG w)
  obtain ⟨e1, e2, e3, e4⟩ := blk_lt hG hh
  have H := Lib.hid h
  have HB1 := Lib.hid (below_yes u G.U hh.1 hh.2.1)
  have HB2 := Lib.hid (below_yes b G.k hh.2.2.1 hh.2.2.2)
  have hu0 : 0 ≤ u * G.k := Int.mul_nonneg hh.1 (by have := hh.2.2; omega)
  have hu1 : u * G.k < 512 := by have := hh.2.2; omega
  have hw1 : IntKind.i64.wrap (u * G.k) = u * G.k := kwrap_is (by omega) (by omega)
  have hw2 : IntKind.i64.wrap (u * G.k + b) = (blk G u b : Int) := by rw [e4]; exact kwrap_is (by omega) (by omega)
  have hlt : (blk G u b : Int) < (cnt G : Int) := by rw [e4]; unfold cnt; omega
  have hu2 : (blk G u b : Int).toNat = blk G u b := by omega
  generalize blk G u b = j at hw2 hlt hu2 ⊢
  clear h e1 e2 e3 e4 hu0 hu1 hh hG
  obtain ⟨z, hz⟩ : ∃ z, z = u * G.k := ⟨_, rfl⟩
  rw [← hz] at hw2
  replace hw1 : IntKind.i64.wrap (u * G.k) = z := hw1.trans hz.symm
  clear hz
  go_enter Try.func51, Try.ntmps51
  go_wp2_with fail
  refine (HU.out w).mono ?_
  rintro e w2 ⟨rfl, hb⟩
  have hd := H.out.below hb
  have HB := Lib.hid hb
  clear h1 h2 h3 h4 h5 h7
  obtain ⟨_, h1, h2, h3, h4, h5, _, h7, _⟩ := hd.cells
  clear hb hd
  go_wp2_with fail
  refine (HB1.out w2).mono ?_
  rintro e w3 ⟨rfl, rfl⟩
  go_wp2_with fail
  refine (HB2.out w3).mono ?_
  rintro e w4 ⟨rfl, rfl⟩
  go_wp2_with fail
  go_quiet (fail)
  go_wp2
  go_ret
  exact ⟨rfl, below_draws HB.out _⟩

theorem block_no (hG : G.Ok) (h : Dev G w P st) (u b : Int) (hh : ¬ has G u b) :
    Calls Try.prog 51 #[ptr P.g, .int .i64 u, .int .i64 b] w fun e w' => e = .returned (.pointer none) ∧ Below w.heap.size w w' := by
  obtain ⟨_, h1, h2, h3, h4, h5, _, h7, _⟩ := h.cells
  have HU := Lib.hid (fun w => Units_ok hG w)
  have H := Lib.hid h
  by_cases hu : 0 ≤ u ∧ u < G.U
  · have HB1 := Lib.hid (below_yes u G.U hu.1 hu.2)
    have HB2 := Lib.hid (below_no b G.k (fun hb => hh ⟨hu.1, hu.2, hb.1, hb.2⟩))
    clear h hh hG hu
    go_enter Try.func51, Try.ntmps51
    go_wp2_with fail
    refine (HU.out w).mono ?_
    rintro e w2 ⟨rfl, hb⟩
    have hd := H.out.below hb
    have HB := Lib.hid hb
    clear h1 h2 h3 h4 h5 h7
    obtain ⟨_, h1, h2, h3, h4, h5, _, h7, _⟩ := hd.cells
    clear hb hd
    go_wp2_with fail
    refine (HB1.out w2).mono ?_
    rintro e w3 ⟨rfl, rfl⟩
    go_wp2_with fail
    refine (HB2.out w3).mono ?_
    rintro e w4 ⟨rfl, rfl⟩
    go_wp2
    go_ret
    exact ⟨rfl, HB.out⟩
  · have HB1 := Lib.hid (below_no u G.U hu)
    clear h hh hG hu
    go_enter Try.func51, Try.ntmps51
    go_wp2_with fail
    refine (HU.out w).mono ?_
    rintro e w2 ⟨rfl, hb⟩
    have hd := H.out.below hb
    have HB := Lib.hid hb
    clear h1 h2 h3 h4 h5 h7
    obtain ⟨_, h1, h2, h3, h4, h5, _, h7, _⟩ := hd.cells
    clear hb hd
    go_wp2_with fail
    refine (HB1.out w2).mono ?_
    rintro e w3 ⟨rfl, rfl⟩
    go_wp2
    go_ret
    exact ⟨rfl, HB.out⟩

theorem cells3 {t : TypeId} {w : World} {b : Nat} {u v z : Value} (h : w.heap[b]? = some (.cells #[u, v, z] t (0, 0))) : w.cell? ⟨b, 0, none⟩ = some u ∧ w.cell? ⟨b, 1, none⟩ = some v ∧ w.cell? ⟨b, 2, none⟩ = some z ∧
    w.frozen? ⟨b, 0, none⟩ = false ∧ w.frozen? ⟨b, 1, none⟩ = false ∧ w.frozen? ⟨b, 2, none⟩ = false := by
  simp [World.cell?, World.frozen?, h]
theorem cells3_set {t : TypeId} {w : World} {b : Nat} {u v z : Value} (h : w.heap[b]? = some (.cells #[u, v, z] t (0, 0))) (x y q : Value) : (((w.setCell ⟨b, 0, none⟩ x).setCell ⟨b, 1, none⟩ y).setCell ⟨b, 2, none⟩ q).heap[b]? = some (.cells #[x, y, q] t (0, 0)) := by
  simp [World.setCell, Array.getElem?_modify, h]

/-- The three cells of a block. -/
theorem Dev.three (hG : G.Ok) (h : Dev G w P st) {u b : Int} (hh : has G u b) : w.cell? ⟨P.gb, blk G u b * 3, none⟩ = some (.int .i64 (st.nx (blk G u b))) ∧ w.cell? ⟨P.gb, blk G u b * 3 + 1, none⟩ = some (.int .i64 (st.wr (blk G u b))) ∧ w.cell? ⟨P.gb, blk G u b * 3 + 2, none⟩ = some (.bool (st.rt (blk G u b))) := by
  obtain ⟨e1, e2, e3, e4⟩ := blk_lt hG hh
  have hlt : blk G u b < cnt G := by unfold cnt; omega
  rw [← bcell_0, ← bcell_1, ← bcell_2]
  exact ⟨h.row.cell (by omega), h.row.cell (by omega), h.row.cell (by omega)⟩

theorem known_ok (hG : G.Ok) (h : Dev G w P st) (u b : Int) (hh : has G u b) :
    Calls Try.prog 43 #[ptr P.g, .int .i64 u, .int .i64 b] w fun e w' => e = .returned (.agg #[.int .i64 (st.nx (blk G u b)), .int .i64 (st.wr (blk G u b)), .bool (st.rt (blk G u b))]) ∧ Below w.heap.size w w' := by
  have hb0 := (Below.refl w.heap.size w).alloc (Nat.le_refl _) (.cells #[.int .i64 0, .int .i64 0, .bool false] 77)
  have hd := h.below hb0
  have HB0 := Lib.hid hb0
  have HD := Lib.hid hd
  have HC := Lib.hid (block_ok hG hd u b hh)
  have HT := Lib.hid (fun w (hd : Dev G w P st) => hd.three hG hh)
  have hgb := h.lt _ P.own_b
  generalize blk G u b = j at HC HT ⊢
  generalize st.nx j = x at HT ⊢
  generalize st.wr j = y at HT ⊢
  generalize st.rt j = z at HT ⊢
  clear h hd hb0
  go_enter Try.func43, Try.ntmps43
  go_wp2_with fail
  refine HC.out.mono ?_
  rintro e w2 ⟨rfl, hb⟩
  obtain ⟨t0, t1, t2⟩ := HT.out w2 (HD.out.below hb)
  have HB := Lib.hid (below_then HB0.out hb)
  have hx : w2.heap[w.heap.size]? = some (.cells #[.int .i64 0, .int .i64 0, .bool false] 77 (0, 0)) := (hb.block _ (by simp)).trans (heap_alloc_new w _)
  obtain ⟨r0, r1, r2, f0, f1, f2⟩ := cells3 hx
  have hy := cells3_set hx (.int .i64 x) (.int .i64 y) (.bool z)
  have HX := Lib.hid (((HB.out.setCell (Nat.le_refl _) _).setCell (Nat.le_refl _) _).setCell (Nat.le_refl _) _ : Below w.heap.size w (((w2.setCell ⟨w.heap.size, 0, none⟩ (.int .i64 x)).setCell ⟨w.heap.size, 1, none⟩ (.int .i64 y)).setCell ⟨w.heap.size, 2, none⟩ (.bool z)))
  have HY := Lib.hid hy
  clear hb hx hy
  go_wp2
  generalize World.setCell _ _ _ = X at HX HY ⊢
  obtain ⟨P0, P1, P2, _⟩ := cells3 HY.out
  refine bodyPost_ret (v := .agg #[.int .i64 x, .int .i64 y, .bool z]) ?_ rfl ⟨rfl, HX.out⟩
  simp [results, Try.results43, go_sem, P0, P1, P2]

theorem known_no (hG : G.Ok) (h : Dev G w P st) (u b : Int) (hh : ¬ has G u b) :
    Calls Try.prog 43 #[ptr P.g, .int .i64 u, .int .i64 b] w fun e w' => e = .returned (.agg #[.int .i64 0, .int .i64 0, .bool false]) ∧ Below w.heap.size w w' := by
  have hb0 := (Below.refl w.heap.size w).alloc (Nat.le_refl _) (.cells #[.int .i64 0, .int .i64 0, .bool false] 77)
  have hd := h.below hb0
  have HB0 := Lib.hid hb0
  have HC := Lib.hid (block_no hG hd u b hh)
  clear h hd hb0
  go_enter Try.func43, Try.ntmps43
  go_wp2_with fail
  refine HC.out.mono ?_
  rintro e w2 ⟨rfl, hb⟩
  have HB := Lib.hid (below_then HB0.out hb)
  have hx : w2.heap[w.heap.size]? = some (.cells #[.int .i64 0, .int .i64 0, .bool false] 77 (0, 0)) := (hb.block _ (by simp)).trans (heap_alloc_new w _)
  obtain ⟨r0, r1, r2, f0, f1, f2⟩ := cells3 hx
  have hy := cells3_set hx (.int .i64 0) (.int .i64 0) (.bool false)
  have HX := Lib.hid (((HB.out.setCell (Nat.le_refl _) _).setCell (Nat.le_refl _) _).setCell (Nat.le_refl _) _ : Below w.heap.size w (((w2.setCell ⟨w.heap.size, 0, none⟩ (.int .i64 0)).setCell ⟨w.heap.size, 1, none⟩ (.int .i64 0)).setCell ⟨w.heap.size, 2, none⟩ (.bool false)))
  have HY := Lib.hid hy
  clear hb hx hy
  go_wp2
  generalize World.setCell _ _ _ = X at HX HY ⊢
  obtain ⟨P0, P1, P2, _⟩ := cells3 HY.out
  refine bodyPost_ret (v := .agg #[.int .i64 0, .int .i64 0, .bool false]) ?_ rfl ⟨rfl, HX.out⟩
  simp [results, Try.results43, go_sem, P0, P1, P2]

theorem known_any (hG : G.Ok) (h : Dev G w P st) (u b : Int) :
    Calls Try.prog 43 #[ptr P.g, .int .i64 u, .int .i64 b] w fun e w' => e = .returned (.agg #[.int .i64 (st.next G u b), .int .i64 (st.wear G u b), .bool (st.retired G u b)]) ∧ Below w.heap.size w w' := by
  unfold St.next St.wear St.retired
  by_cases hh : has G u b
  · rw [if_pos hh, if_pos hh, if_pos hh]
    exact known_ok hG h u b hh
  · rw [if_neg hh, if_neg hh, if_neg hh]
    exact known_no hG h u b hh

theorem Retired_any (hG : G.Ok) (h : Dev G w P st) (u b : Int) :
    Calls Try.prog 14 #[ptr P.g, .int .i64 u, .int .i64 b] w fun e w' => e = .returned (.bool (st.retired G u b)) ∧ Below w.heap.size w w' := by
  have HC := Lib.hid (known_any hG h u b)
  generalize st.next G u b = x at HC ⊢
  generalize st.wear G u b = y at HC ⊢
  generalize st.retired G u b = z at HC ⊢
  have hfd : ∀ w : World, (Instr.field 77 (.agg #[.int .i64 x, .int .i64 y, .bool z]) 2).run Try.prog w = .ok (.bool z) w := fun _ => by kernel_rfl
  clear h
  go_enter Try.func14, Try.ntmps14
  go_wp2_with fail
  refine HC.out.mono ?_
  rintro e w2 ⟨rfl, hb⟩
  have HB := Lib.hid hb
  clear hb
  go_wp2
  go_ret
  exact ⟨rfl, HB.out⟩

theorem Next_any (hG : G.Ok) (h : Dev G w P st) (u b : Int) :
    Calls Try.prog 16 #[ptr P.g, .int .i64 u, .int .i64 b] w fun e w' => e = .returned (.int .i64 (st.next G u b)) ∧ Below w.heap.size w w' := by
  have HC := Lib.hid (known_any hG h u b)
  generalize st.next G u b = x at HC ⊢
  generalize st.wear G u b = y at HC ⊢
  generalize st.retired G u b = z at HC ⊢
  have hfd : ∀ w : World, (Instr.field 77 (.agg #[.int .i64 x, .int .i64 y, .bool z]) 0).run Try.prog w = .ok (.int .i64 x) w := fun _ => by kernel_rfl
  clear h
  go_enter Try.func16, Try.ntmps16
  go_wp2_with fail
  refine HC.out.mono ?_
  rintro e w2 ⟨rfl, hb⟩
  have HB := Lib.hid hb
  clear hb
  go_wp2
  go_ret
  exact ⟨rfl, HB.out⟩

theorem Wear_any (hG : G.Ok) (h : Dev G w P st) (u b : Int) :
    Calls Try.prog 17 #[ptr P.g, .int .i64 u, .int .i64 b] w fun e w' => e = .returned (.int .i64 (st.wear G u b)) ∧ Below w.heap.size w w' := by
  have HC := Lib.hid (known_any hG h u b)
  generalize st.next G u b = x at HC ⊢
  generalize st.wear G u b = y at HC ⊢
  generalize st.retired G u b = z at HC ⊢
  have hfd : ∀ w : World, (Instr.field 77 (.agg #[.int .i64 x, .int .i64 y, .bool z]) 1).run Try.prog w = .ok (.int .i64 y) w := fun _ => by kernel_rfl
  clear h
  go_enter Try.func17, Try.ntmps17
  go_wp2_with fail
  refine HC.out.mono ?_
  rintro e w2 ⟨rfl, hb⟩
  have HB := Lib.hid hb
  clear hb
  go_wp2
  go_ret
  exact ⟨rfl, HB.out⟩

theorem address_ok (hG : G.Ok) (h : Dev G w P st) (u b g t : Int) (hp : Geom.there G.U G.k G.p G.s u b g t) :
    Calls Try.prog 71 #[ptr P.g, .int .i64 u, .int .i64 b, .int .i64 g, .int .i64 t] w fun e w' => e = .returned (.int .i64 (adr G u b g t)) ∧ Below w.heap.size w w' := by
  obtain ⟨_, h1, h2, h3, h4, h5, _⟩ := h.cells
  have HC := Lib.hid (num_in hG u b g t (adr G u b g t) hp rfl w)
  generalize adr G u b g t = a at HC ⊢
  clear h hG hp
  go_enter Try.func71, Try.ntmps71
  go_wp2_with fail
  refine HC.out.mono ?_
  rintro e w2 ⟨rfl, hb⟩
  have HB := Lib.hid hb
  clear hb
  go_wp2
  go_ret
  exact ⟨rfl, HB.out⟩
end

end Go.Proofs.Ytlmdlhfdacmcnaa.NandPkg
