/-
  GeomBack: for any geometry, address and place the law answers true. No condition.
-/
import Derived.Test.YtaimecbfplcmhaaGeomKit
import Derived.Deep.DeepCutAuto
namespace Go.Proofs.Ytaimecbfplcmhaa.geomBack
open Go.ChangeShapes Go.WideShapes Go.ChangeAt Go.RowKit
set_option maxRecDepth 4000

section
variable {c l k p s U R L N a u b g t : Int}

theorem walk_bad (h : ¬ Geom.ok c l k p s) (w : World) :
    Calls Try.prog 6 #[.agg #[.int .i64 c, .int .i64 l, .int .i64 k, .int .i64 p, .int .i64 s], .int .i64 a, .agg #[.int .i64 u, .int .i64 b, .int .i64 g, .int .i64 t]] w fun e w' => e = .returned (.bool true) ∧ Below w.heap.size w w' := by
  have H := Lib.hid h
  clear h
  have hb0 := ((Below.refl w.heap.size w).alloc (Nat.le_refl _) (.cells #[.int .i64 c, .int .i64 l, .int .i64 k, .int .i64 p, .int .i64 s] 23))
  have HB := Lib.hid (hb0.alloc hb0.size (.cells #[.int .i64 u, .int .i64 b, .int .i64 g, .int .i64 t] 28))
  have HG := Lib.hid (And.intro (geo_keep (geo_new w 23 c l k p s) ((Below.refl _ _).alloc (Nat.le_refl _) (.cells #[.int .i64 u, .int .i64 b, .int .i64 g, .int .i64 t] 28))) (pla_new (w.alloc (.cells #[.int .i64 c, .int .i64 l, .int .i64 k, .int .i64 p, .int .i64 s] 23)) (w.heap.size + 1) (by simp) 28 u b g t))
  clear hb0
  go_enter Try.func6, Try.ntmps6
  go_wp2_with fail
  refine (awake_any _).mono ?_
  rintro e w1 ⟨rfl, hb⟩
  replace HB := Lib.hid (below_then HB.out hb)
  replace HG := Lib.hid (both_keep HG.out hb)
  clear hb
  obtain ⟨⟨G0, G1, G2, G3, G4⟩, P0, P1, P2, P3⟩ := HG.out
  go_wp2_with fail
  clear G0 G1 G2 G3 G4 P0 P1 P2 P3
  refine (of_bad H.out a _).mono ?_
  rintro e w2 ⟨rfl, hb⟩
  replace HB := Lib.hid (below_then HB.out hb)
  replace HG := Lib.hid (both_keep HG.out hb)
  clear hb
  obtain ⟨⟨G0, G1, G2, G3, G4⟩, P0, P1, P2, P3⟩ := HG.out
  have hlt : w.heap.size < w2.heap.size := World.block_lt_of_cell? _ _ G0
  have hlt1 : w.heap.size + 1 < w2.heap.size := World.block_lt_of_cell? _ _ P0
  go_wp2_with fail
  clear G0 G1 G2 G3 G4 P0 P1 P2 P3 hlt hlt1
  refine (num_bad H.out u b g t _).mono ?_
  rintro e w3 ⟨rfl, hb⟩
  have hal := (Below.refl w2.heap.size w2).alloc (Nat.le_refl _) (.cells #[.int .i64 0, .int .i64 0, .int .i64 0, .int .i64 0] 28)
  have hh := hold_keep (hold_new w2 w2.heap.size rfl 28 0 0 0 0) hb
  replace HB := Lib.hid (below_then (below_then HB.out hal) hb)
  replace HG := Lib.hid (both_keep (both_keep HG.out hal) hb)
  clear hb hal
  clear hh
  go_wp2
  go_ret
  exact ⟨rfl, HB.out⟩

set_option maxHeartbeats 400000 in
theorem walk_out_out (h : Geom.Sizes c l k p s U R L N) (ha : a < 0 ∨ N ≤ a) (hp : ¬ Geom.there U k p s u b g t) (w : World) :
    Calls Try.prog 6 #[.agg #[.int .i64 c, .int .i64 l, .int .i64 k, .int .i64 p, .int .i64 s], .int .i64 a, .agg #[.int .i64 u, .int .i64 b, .int .i64 g, .int .i64 t]] w fun e w' => e = .returned (.bool true) ∧ Below w.heap.size w w' := by
  have HOF := Lib.hid (of_out h a ha)
  have HNP := Lib.hid (num_out h u b g t hp)
  clear h hp ha
  have hb0 := ((Below.refl w.heap.size w).alloc (Nat.le_refl _) (.cells #[.int .i64 c, .int .i64 l, .int .i64 k, .int .i64 p, .int .i64 s] 23))
  have HB := Lib.hid (hb0.alloc hb0.size (.cells #[.int .i64 u, .int .i64 b, .int .i64 g, .int .i64 t] 28))
  have HG := Lib.hid (And.intro (geo_keep (geo_new w 23 c l k p s) ((Below.refl _ _).alloc (Nat.le_refl _) (.cells #[.int .i64 u, .int .i64 b, .int .i64 g, .int .i64 t] 28))) (pla_new (w.alloc (.cells #[.int .i64 c, .int .i64 l, .int .i64 k, .int .i64 p, .int .i64 s] 23)) (w.heap.size + 1) (by simp) 28 u b g t))
  clear hb0
  go_enter Try.func6, Try.ntmps6
  go_wp2_with fail
  refine (awake_any _).mono ?_
  rintro e w1 ⟨rfl, hb⟩
  replace HB := Lib.hid (below_then HB.out hb)
  replace HG := Lib.hid (both_keep HG.out hb)
  clear hb
  obtain ⟨⟨G0, G1, G2, G3, G4⟩, P0, P1, P2, P3⟩ := HG.out
  go_wp2_with fail
  clear G0 G1 G2 G3 G4 P0 P1 P2 P3
  refine (HOF.out _).mono ?_
  rintro e w2 ⟨rfl, hb⟩
  replace HB := Lib.hid (below_then HB.out hb)
  replace HG := Lib.hid (both_keep HG.out hb)
  clear hb
  obtain ⟨⟨G0, G1, G2, G3, G4⟩, P0, P1, P2, P3⟩ := HG.out
  have hlt : w.heap.size < w2.heap.size := World.block_lt_of_cell? _ _ G0
  have hlt1 : w.heap.size + 1 < w2.heap.size := World.block_lt_of_cell? _ _ P0
  go_wp2_with fail
  clear G0 G1 G2 G3 G4 P0 P1 P2 P3 hlt
  refine (HNP.out _).mono ?_
  rintro e w4 ⟨rfl, hb⟩
  have hal := (Below.refl w2.heap.size w2).alloc (Nat.le_refl _) (.cells #[.int .i64 0, .int .i64 0, .int .i64 0, .int .i64 0] 28)
  have hh := hold_keep (hold_new w2 w2.heap.size rfl 28 0 0 0 0) hb
  replace HB := Lib.hid (below_then (below_then HB.out hal) hb)
  replace HG := Lib.hid (both_keep (both_keep HG.out hal) hb)
  clear hb hal
  generalize w2.heap.size = Q at hh hlt1 ⊢
  have HH := Lib.hid hh
  clear hh
  clear HH HG
  go_wp2
  go_ret
  exact ⟨rfl, HB.out⟩

set_option maxHeartbeats 400000 in
theorem walk_out_in (h : Geom.Sizes c l k p s U R L N) (ha : a < 0 ∨ N ≤ a) (hp : Geom.there U k p s u b g t) (w : World) :
    Calls Try.prog 6 #[.agg #[.int .i64 c, .int .i64 l, .int .i64 k, .int .i64 p, .int .i64 s], .int .i64 a, .agg #[.int .i64 u, .int .i64 b, .int .i64 g, .int .i64 t]] w fun e w' => e = .returned (.bool true) ∧ Below w.heap.size w w' := by
  have HOF := Lib.hid (of_out h a ha)
  obtain ⟨m, hm⟩ : ∃ m, m = b * L + g * R + u * s + t := ⟨_, rfl⟩
  obtain ⟨m0, m1, e0, e1, e2, e3⟩ := Geom.of_number h hp hm
  have hofp := of_in h m m0 m1
  rw [e0, e1, e2, e3] at hofp
  have HOP := Lib.hid hofp
  have HNP := Lib.hid (num_in h u b g t m hp hm)
  clear hofp e0 e1 e2 e3 hm m0 m1
  clear h hp ha
  have hb0 := ((Below.refl w.heap.size w).alloc (Nat.le_refl _) (.cells #[.int .i64 c, .int .i64 l, .int .i64 k, .int .i64 p, .int .i64 s] 23))
  have HB := Lib.hid (hb0.alloc hb0.size (.cells #[.int .i64 u, .int .i64 b, .int .i64 g, .int .i64 t] 28))
  have HG := Lib.hid (And.intro (geo_keep (geo_new w 23 c l k p s) ((Below.refl _ _).alloc (Nat.le_refl _) (.cells #[.int .i64 u, .int .i64 b, .int .i64 g, .int .i64 t] 28))) (pla_new (w.alloc (.cells #[.int .i64 c, .int .i64 l, .int .i64 k, .int .i64 p, .int .i64 s] 23)) (w.heap.size + 1) (by simp) 28 u b g t))
  clear hb0
  go_enter Try.func6, Try.ntmps6
  go_wp2_with fail
  refine (awake_any _).mono ?_
  rintro e w1 ⟨rfl, hb⟩
  replace HB := Lib.hid (below_then HB.out hb)
  replace HG := Lib.hid (both_keep HG.out hb)
  clear hb
  obtain ⟨⟨G0, G1, G2, G3, G4⟩, P0, P1, P2, P3⟩ := HG.out
  go_wp2_with fail
  clear G0 G1 G2 G3 G4 P0 P1 P2 P3
  refine (HOF.out _).mono ?_
  rintro e w2 ⟨rfl, hb⟩
  replace HB := Lib.hid (below_then HB.out hb)
  replace HG := Lib.hid (both_keep HG.out hb)
  clear hb
  obtain ⟨⟨G0, G1, G2, G3, G4⟩, P0, P1, P2, P3⟩ := HG.out
  have hlt : w.heap.size < w2.heap.size := World.block_lt_of_cell? _ _ G0
  have hlt1 : w.heap.size + 1 < w2.heap.size := World.block_lt_of_cell? _ _ P0
  go_wp2_with fail
  clear G0 G1 G2 G3 G4 P0 P1 P2 P3 hlt
  refine (HNP.out _).mono ?_
  rintro e w4 ⟨rfl, hb⟩
  have hal := (Below.refl w2.heap.size w2).alloc (Nat.le_refl _) (.cells #[.int .i64 0, .int .i64 0, .int .i64 0, .int .i64 0] 28)
  have hh := hold_keep (hold_new w2 w2.heap.size rfl 28 0 0 0 0) hb
  replace HB := Lib.hid (below_then (below_then HB.out hal) hb)
  replace HG := Lib.hid (both_keep (both_keep HG.out hal) hb)
  clear hb hal
  generalize w2.heap.size = Q at hh hlt1 ⊢
  have HH := Lib.hid hh
  clear hh
  obtain ⟨⟨G0, G1, G2, G3, G4⟩, P0, P1, P2, P3⟩ := HG.out
  go_wp2_with fail
  clear G0 G1 G2 G3 G4 P0 P1 P2 P3
  refine (HOP.out _).mono ?_
  rintro e w5 ⟨rfl, hb⟩
  replace HB := Lib.hid (below_then HB.out hb)
  replace HG := Lib.hid (both_keep HG.out hb)
  replace HH := Lib.hid (hold_keep HH.out hb)
  clear hb
  obtain ⟨P0, P1, P2, P3⟩ := HG.out.2
  obtain ⟨⟨F0, F1, F2, F3⟩, Z0, Z1, Z2, Z3⟩ := HH.out
  go_upto_region 10 with fail
  clear F0 F1 F2 F3 Z0 Z1 Z2 Z3 P0 P1 P2 P3
  have hq := pla_set HH.out.1 u b g t
  have hpp := pla_other (show Q ≠ w.heap.size + 1 by omega) HG.out.2 u b g t
  have HX := Lib.hid (below_set HB.out (show w.heap.size ≤ Q by omega) u b g t)
  clear HB HG HH
  generalize World.setCell _ _ _ = X at hq hpp HX ⊢
  obtain ⟨P0, P1, P2, P3⟩ := hpp
  obtain ⟨F0, F1, F2, F3⟩ := hq
  go_wp2
  go_ret
  exact ⟨rfl, HX.out⟩

set_option maxHeartbeats 400000 in
theorem walk_in_out (h : Geom.Sizes c l k p s U R L N) (h0 : 0 ≤ a) (h1 : a < N) (hp : ¬ Geom.there U k p s u b g t) (w : World) :
    Calls Try.prog 6 #[.agg #[.int .i64 c, .int .i64 l, .int .i64 k, .int .i64 p, .int .i64 s], .int .i64 a, .agg #[.int .i64 u, .int .i64 b, .int .i64 g, .int .i64 t]] w fun e w' => e = .returned (.bool true) ∧ Below w.heap.size w w' := by
  have hof := of_in h a h0 h1
  obtain ⟨hth, hnum⟩ := Geom.number_of h h0 h1
  have hnu := num_in h _ _ _ _ a hth hnum.symm
  generalize a % R / s = x0 at hof hnu
  generalize a / L = x1 at hof hnu
  generalize a % L / R = x2 at hof hnu
  generalize a % s = x3 at hof hnu
  have HOF := Lib.hid hof
  have HNU := Lib.hid hnu
  clear hof hnu hth hnum
  have HNP := Lib.hid (num_out h u b g t hp)
  clear h hp h0 h1
  have hb0 := ((Below.refl w.heap.size w).alloc (Nat.le_refl _) (.cells #[.int .i64 c, .int .i64 l, .int .i64 k, .int .i64 p, .int .i64 s] 23))
  have HB := Lib.hid (hb0.alloc hb0.size (.cells #[.int .i64 u, .int .i64 b, .int .i64 g, .int .i64 t] 28))
  have HG := Lib.hid (And.intro (geo_keep (geo_new w 23 c l k p s) ((Below.refl _ _).alloc (Nat.le_refl _) (.cells #[.int .i64 u, .int .i64 b, .int .i64 g, .int .i64 t] 28))) (pla_new (w.alloc (.cells #[.int .i64 c, .int .i64 l, .int .i64 k, .int .i64 p, .int .i64 s] 23)) (w.heap.size + 1) (by simp) 28 u b g t))
  clear hb0
  go_enter Try.func6, Try.ntmps6
  go_wp2_with fail
  refine (awake_any _).mono ?_
  rintro e w1 ⟨rfl, hb⟩
  replace HB := Lib.hid (below_then HB.out hb)
  replace HG := Lib.hid (both_keep HG.out hb)
  clear hb
  obtain ⟨⟨G0, G1, G2, G3, G4⟩, P0, P1, P2, P3⟩ := HG.out
  go_wp2_with fail
  clear G0 G1 G2 G3 G4 P0 P1 P2 P3
  refine (HOF.out _).mono ?_
  rintro e w2 ⟨rfl, hb⟩
  replace HB := Lib.hid (below_then HB.out hb)
  replace HG := Lib.hid (both_keep HG.out hb)
  clear hb
  obtain ⟨⟨G0, G1, G2, G3, G4⟩, P0, P1, P2, P3⟩ := HG.out
  have hlt : w.heap.size < w2.heap.size := World.block_lt_of_cell? _ _ G0
  have hlt1 : w.heap.size + 1 < w2.heap.size := World.block_lt_of_cell? _ _ P0
  go_wp2_with fail
  clear G0 G1 G2 G3 G4 P0 P1 P2 P3 hlt
  refine (HNU.out _).mono ?_
  rintro e w3 ⟨rfl, hb⟩
  have hal := (Below.refl w2.heap.size w2).alloc (Nat.le_refl _) (.cells #[.int .i64 x0, .int .i64 x1, .int .i64 x2, .int .i64 x3] 28)
  have hh := hold_keep (hold_new w2 w2.heap.size rfl 28 x0 x1 x2 x3) hb
  replace HB := Lib.hid (below_then (below_then HB.out hal) hb)
  replace HG := Lib.hid (both_keep (both_keep HG.out hal) hb)
  clear hb hal
  generalize w2.heap.size = Q at hh hlt1 ⊢
  have HH := Lib.hid hh
  clear hh
  obtain ⟨⟨G0, G1, G2, G3, G4⟩, P0, P1, P2, P3⟩ := HG.out
  go_wp2_with fail
  clear G0 G1 G2 G3 G4 P0 P1 P2 P3
  refine (HNP.out _).mono ?_
  rintro e w4 ⟨rfl, hb⟩
  replace HB := Lib.hid (below_then HB.out hb)
  replace HG := Lib.hid (both_keep HG.out hb)
  replace HH := Lib.hid (hold_keep HH.out hb)
  clear hb
  clear HH HG
  go_wp2
  go_ret
  exact ⟨rfl, HB.out⟩

set_option maxHeartbeats 400000 in
theorem walk_in_in (h : Geom.Sizes c l k p s U R L N) (h0 : 0 ≤ a) (h1 : a < N) (hp : Geom.there U k p s u b g t) (w : World) :
    Calls Try.prog 6 #[.agg #[.int .i64 c, .int .i64 l, .int .i64 k, .int .i64 p, .int .i64 s], .int .i64 a, .agg #[.int .i64 u, .int .i64 b, .int .i64 g, .int .i64 t]] w fun e w' => e = .returned (.bool true) ∧ Below w.heap.size w w' := by
  have hof := of_in h a h0 h1
  obtain ⟨hth, hnum⟩ := Geom.number_of h h0 h1
  have hnu := num_in h _ _ _ _ a hth hnum.symm
  generalize a % R / s = x0 at hof hnu
  generalize a / L = x1 at hof hnu
  generalize a % L / R = x2 at hof hnu
  generalize a % s = x3 at hof hnu
  have HOF := Lib.hid hof
  have HNU := Lib.hid hnu
  clear hof hnu hth hnum
  obtain ⟨m, hm⟩ : ∃ m, m = b * L + g * R + u * s + t := ⟨_, rfl⟩
  obtain ⟨m0, m1, e0, e1, e2, e3⟩ := Geom.of_number h hp hm
  have hofp := of_in h m m0 m1
  rw [e0, e1, e2, e3] at hofp
  have HOP := Lib.hid hofp
  have HNP := Lib.hid (num_in h u b g t m hp hm)
  clear hofp e0 e1 e2 e3 hm m0 m1
  clear h hp h0 h1
  have hb0 := ((Below.refl w.heap.size w).alloc (Nat.le_refl _) (.cells #[.int .i64 c, .int .i64 l, .int .i64 k, .int .i64 p, .int .i64 s] 23))
  have HB := Lib.hid (hb0.alloc hb0.size (.cells #[.int .i64 u, .int .i64 b, .int .i64 g, .int .i64 t] 28))
  have HG := Lib.hid (And.intro (geo_keep (geo_new w 23 c l k p s) ((Below.refl _ _).alloc (Nat.le_refl _) (.cells #[.int .i64 u, .int .i64 b, .int .i64 g, .int .i64 t] 28))) (pla_new (w.alloc (.cells #[.int .i64 c, .int .i64 l, .int .i64 k, .int .i64 p, .int .i64 s] 23)) (w.heap.size + 1) (by simp) 28 u b g t))
  clear hb0
  go_enter Try.func6, Try.ntmps6
  go_wp2_with fail
  refine (awake_any _).mono ?_
  rintro e w1 ⟨rfl, hb⟩
  replace HB := Lib.hid (below_then HB.out hb)
  replace HG := Lib.hid (both_keep HG.out hb)
  clear hb
  obtain ⟨⟨G0, G1, G2, G3, G4⟩, P0, P1, P2, P3⟩ := HG.out
  go_wp2_with fail
  clear G0 G1 G2 G3 G4 P0 P1 P2 P3
  refine (HOF.out _).mono ?_
  rintro e w2 ⟨rfl, hb⟩
  replace HB := Lib.hid (below_then HB.out hb)
  replace HG := Lib.hid (both_keep HG.out hb)
  clear hb
  obtain ⟨⟨G0, G1, G2, G3, G4⟩, P0, P1, P2, P3⟩ := HG.out
  have hlt : w.heap.size < w2.heap.size := World.block_lt_of_cell? _ _ G0
  have hlt1 : w.heap.size + 1 < w2.heap.size := World.block_lt_of_cell? _ _ P0
  go_wp2_with fail
  clear G0 G1 G2 G3 G4 P0 P1 P2 P3 hlt
  refine (HNU.out _).mono ?_
  rintro e w3 ⟨rfl, hb⟩
  have hal := (Below.refl w2.heap.size w2).alloc (Nat.le_refl _) (.cells #[.int .i64 x0, .int .i64 x1, .int .i64 x2, .int .i64 x3] 28)
  have hh := hold_keep (hold_new w2 w2.heap.size rfl 28 x0 x1 x2 x3) hb
  replace HB := Lib.hid (below_then (below_then HB.out hal) hb)
  replace HG := Lib.hid (both_keep (both_keep HG.out hal) hb)
  clear hb hal
  generalize w2.heap.size = Q at hh hlt1 ⊢
  have HH := Lib.hid hh
  clear hh
  obtain ⟨⟨G0, G1, G2, G3, G4⟩, P0, P1, P2, P3⟩ := HG.out
  go_wp2_with fail
  clear G0 G1 G2 G3 G4 P0 P1 P2 P3
  refine (HNP.out _).mono ?_
  rintro e w4 ⟨rfl, hb⟩
  replace HB := Lib.hid (below_then HB.out hb)
  replace HG := Lib.hid (both_keep HG.out hb)
  replace HH := Lib.hid (hold_keep HH.out hb)
  clear hb
  obtain ⟨⟨G0, G1, G2, G3, G4⟩, P0, P1, P2, P3⟩ := HG.out
  go_wp2_with fail
  clear G0 G1 G2 G3 G4 P0 P1 P2 P3
  refine (HOP.out _).mono ?_
  rintro e w5 ⟨rfl, hb⟩
  replace HB := Lib.hid (below_then HB.out hb)
  replace HG := Lib.hid (both_keep HG.out hb)
  replace HH := Lib.hid (hold_keep HH.out hb)
  clear hb
  obtain ⟨P0, P1, P2, P3⟩ := HG.out.2
  obtain ⟨⟨F0, F1, F2, F3⟩, Z0, Z1, Z2, Z3⟩ := HH.out
  go_upto_region 10 with fail
  clear F0 F1 F2 F3 Z0 Z1 Z2 Z3 P0 P1 P2 P3
  have hq := pla_set HH.out.1 u b g t
  have hpp := pla_other (show Q ≠ w.heap.size + 1 by omega) HG.out.2 u b g t
  have HX := Lib.hid (below_set HB.out (show w.heap.size ≤ Q by omega) u b g t)
  clear HB HG HH
  generalize World.setCell _ _ _ = X at hq hpp HX ⊢
  obtain ⟨P0, P1, P2, P3⟩ := hpp
  obtain ⟨F0, F1, F2, F3⟩ := hq
  go_wp2
  go_ret
  exact ⟨rfl, HX.out⟩

end

theorem walk (c l k p s a u b g t : Int) (w : World) (_h0 : -9223372036854775808 ≤ a) (_h1 : a ≤ 9223372036854775807) :
    Calls Try.prog 6 #[.agg #[.int .i64 c, .int .i64 l, .int .i64 k, .int .i64 p, .int .i64 s], .int .i64 a, .agg #[.int .i64 u, .int .i64 b, .int .i64 g, .int .i64 t]] w fun e w' => e = .returned (.bool true) ∧ Below w.heap.size w w' := by
  rcases Decidable.em (Geom.ok c l k p s) with h | h
  · have hs := Geom.sizes h
    rcases Decidable.em (0 ≤ a ∧ a < k * (p * (c * l * s))) with ⟨h0, h1⟩ | ha
    · rcases Decidable.em (Geom.there (c * l) k p s u b g t) with hp | hp
      · exact walk_in_in hs h0 h1 hp w
      · exact walk_in_out hs h0 h1 hp w
    · have ha' : a < 0 ∨ k * (p * (c * l * s)) ≤ a := by omega
      rcases Decidable.em (Geom.there (c * l) k p s u b g t) with hp | hp
      · exact walk_out_in hs ha' hp w
      · exact walk_out_out hs ha' hp w
  · exact walk_bad h w

theorem own : ownKnob Try.prog.godebug = none := by kernel_rfl
theorem laid : laidOutB Try.prog = true := by kernel_rfl

set_option maxRecDepth 100000 in
theorem lifted (os : Os) (started : os.Started) (H : Type) (enc : TypeId × Value → H) :
    ReturnsInHanded {} Try.checked os 6 .any (Rows.geomBackSpec.pre6 enc Try.prog Try.f6 Rows.geomBackRow.domain false) (Rows.geomBackSpec.post enc Try.prog Try.f6 false true false false) := by
  refine returnsInHanded_of_change (C := Try.checked) own started (by kernel_rfl) Try.func6
    (ChangeSpec.witness6 (enc := enc) (C := Try.checked) false ⟨#[], #[.agg #[.int .i64 0, .int .i64 0, .int .i64 0, .int .i64 0, .int .i64 0], .int .i64 0, .agg #[.int .i64 0, .int .i64 0, .int .i64 0, .int .i64 0]], []⟩ 8 (by kernel_rfl) (by kernel_rfl) (by kernel_rfl) (by kernel_rfl)) ?_
  intro W base args ds gs before hval0 hW _ _
  have hval : ∀ (j : Nat) t v, Try.f6.params[j]? = some t → args[j]? = some v → Value.okWide Try.prog W .any base t v := hval0
  have hW' := hW
  obtain ⟨p, q, hA0, hV, rfl, hfz, hnd⟩ := hW
  have hA : DataW.TrodAll enc Try.prog W 0 (fun _ => true) true Try.f6.params.toList args.toList ds p := hA0
  rw [Try.params6] at hA hval
  obtain ⟨v0, v1, v2, d0, d1, d2, p0, p1, p2, rfl, rfl, rfl, h0, h1, h2⟩ := trodAll_three hA
  obtain ⟨c0, l0, k0, q0, s0, rfl⟩ := open_geo Try.underlying23 rfl (by kernel_rfl) (by kernel_rfl) (hval 0 23 v0 rfl rfl) h0
  obtain ⟨a1, rfl, rfl, rfl, wf1⟩ := open_int Try.underlying3 (hval 1 3 v1 rfl rfl) h1
  have hb1 : -9223372036854775808 ≤ a1 ∧ a1 ≤ 9223372036854775807 := by simpa [Lit.wf, IntKind.min, IntKind.max, IntKind.signed, IntKind.bits] using wf1
  obtain ⟨u2, b2, g2, t2, rfl⟩ := open_place Try.underlying28 rfl (by kernel_rfl) (by kernel_rfl) (hval 2 28 v2 rfl rfl) h2
  refine (walk c0 l0 k0 q0 s0 a1 u2 b2 g2 t2 W hb1.1 hb1.2).mono fun e W' ⟨he, hb⟩ => ?_
  subst he
  exact ⟨_, rfl, Law.post laid (by kernel_rfl) (by kernel_rfl) Try.underlying4 rfl hW' rfl hb⟩

theorem proved : Rows.GeomBackSaid :=
  OpenClaim.holds_of_wide 6 Try.f6 rfl rfl rfl rfl rfl rfl rfl ⟨rfl, rfl, rfl, rfl, rfl⟩ rfl rfl rfl rfl rfl (by kernel_rfl) Try.func6 (by kernel_rfl)
    (of_decide_eq_true (by kernel_rfl)) (by unfold Func.isWrapper; first | (rw [if_pos (by decide +kernel)]; kernel_rfl) | (rw [if_neg (by decide +kernel)]; exact ⟨rfl, rfl⟩))
    (fun os started H enc _ => lifted os started H enc)

end Go.Proofs.Ytaimecbfplcmhaa.geomBack
