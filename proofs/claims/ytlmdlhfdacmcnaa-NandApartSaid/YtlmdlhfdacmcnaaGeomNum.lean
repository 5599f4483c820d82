/-
  What each function of package geom does, the seventh part: Number, for every input.
-/
import Derived.Test.YtlmdlhfdacmcnaaGeomOf
namespace Go.Proofs.Ytlmdlhfdacmcnaa
open Go.RowKit
set_option maxRecDepth 4000

section
variable {c l k p s U R L N : Int}

theorem num_bad (h : ¬ Geom.ok c l k p s) (u b g t : Int) (w : World) :
    Calls Try.prog 28 #[.agg #[.int .i64 c, .int .i64 l, .int .i64 k, .int .i64 p, .int .i64 s], .agg #[.int .i64 u, .int .i64 b, .int .i64 g, .int .i64 t]] w fun e w' => e = .returned (.tuple #[.int .i64 0, .int .i64 1]) ∧ Below w.heap.size w w' := by
  have H := Lib.hid h
  clear h
  have hb0 := ((Below.refl w.heap.size w).alloc (Nat.le_refl _) (.cells #[.int .i64 c, .int .i64 l, .int .i64 k, .int .i64 p, .int .i64 s] 23))
  have HB := Lib.hid (hb0.alloc hb0.size (.cells #[.int .i64 u, .int .i64 b, .int .i64 g, .int .i64 t] 65))
  have HG := Lib.hid (And.intro (geo_keep (geo_new w 23 c l k p s) ((Below.refl _ _).alloc (Nat.le_refl _) (.cells #[.int .i64 u, .int .i64 b, .int .i64 g, .int .i64 t] 65))) (pla_new (w.alloc (.cells #[.int .i64 c, .int .i64 l, .int .i64 k, .int .i64 p, .int .i64 s] 23)) (w.heap.size + 1) (by simp) 65 u b g t))
  clear hb0
  go_enter Try.func28, Try.ntmps28
  go_wp2_with fail
  refine (number_any c l k p s u b g t _).mono ?_
  rintro e w2 ⟨z, rfl, hz, hb⟩
  replace HB := Lib.hid (below_then HB.out hb)
  replace HG := Lib.hid (both_keep HG.out hb)
  clear hb
  clear hz
  obtain ⟨⟨G0, G1, G2, G3, G4⟩, P0, P1, P2, P3⟩ := HG.out
  go_wp2_with fail
  clear G0 G1 G2 G3 G4 P0 P1 P2 P3
  refine (of_bad H.out z _).mono ?_
  rintro e w3 ⟨rfl, hb⟩
  replace HB := Lib.hid (below_then HB.out hb)
  replace HG := Lib.hid (both_keep HG.out hb)
  clear hb
  go_wp2
  go_ret2
  exact ⟨rfl, HB.out.alloc HB.out.size _⟩

theorem num_out (h : Geom.Sizes c l k p s U R L N) (u b g t : Int) (hp : ¬ Geom.there U k p s u b g t) (w : World) :
    Calls Try.prog 28 #[.agg #[.int .i64 c, .int .i64 l, .int .i64 k, .int .i64 p, .int .i64 s], .agg #[.int .i64 u, .int .i64 b, .int .i64 g, .int .i64 t]] w fun e w' => e = .returned (.tuple #[.int .i64 0, .int .i64 2]) ∧ Below w.heap.size w w' := by
  have H := Lib.hid h
  have HP := Lib.hid hp
  clear h hp
  have hb0 := ((Below.refl w.heap.size w).alloc (Nat.le_refl _) (.cells #[.int .i64 c, .int .i64 l, .int .i64 k, .int .i64 p, .int .i64 s] 23))
  have HB := Lib.hid (hb0.alloc hb0.size (.cells #[.int .i64 u, .int .i64 b, .int .i64 g, .int .i64 t] 65))
  have HG := Lib.hid (And.intro (geo_keep (geo_new w 23 c l k p s) ((Below.refl _ _).alloc (Nat.le_refl _) (.cells #[.int .i64 u, .int .i64 b, .int .i64 g, .int .i64 t] 65))) (pla_new (w.alloc (.cells #[.int .i64 c, .int .i64 l, .int .i64 k, .int .i64 p, .int .i64 s] 23)) (w.heap.size + 1) (by simp) 65 u b g t))
  clear hb0
  go_enter Try.func28, Try.ntmps28
  go_wp2_with fail
  refine (number_any c l k p s u b g t _).mono ?_
  rintro e w2 ⟨z, rfl, hz, hb⟩
  replace HB := Lib.hid (below_then HB.out hb)
  replace HG := Lib.hid (both_keep HG.out hb)
  clear hb
  clear hz
  obtain ⟨⟨G0, G1, G2, G3, G4⟩, P0, P1, P2, P3⟩ := HG.out
  go_wp2_with fail
  clear G0 G1 G2 G3 G4 P0 P1 P2 P3
  rcases Decidable.em (0 ≤ z ∧ z < N) with ⟨z0, z1⟩ | hz
  · refine (of_in H.out z z0 z1 _).mono ?_
    have hn := (Geom.number_of H.out z0 z1).1
    generalize z % R / s = x0 at hn ⊢
    generalize z / L = x1 at hn ⊢
    generalize z % L / R = x2 at hn ⊢
    generalize z % s = x3 at hn ⊢
    have HN := Lib.hid hn
    clear hn
    rintro e w3 ⟨rfl, hb⟩
    replace HB := Lib.hid (below_then HB.out hb)
    replace HG := Lib.hid (both_keep HG.out hb)
    clear hb
    obtain ⟨P0, P1, P2, P3⟩ := HG.out.2
    have hlt : w.heap.size + 1 < w3.heap.size := World.block_lt_of_cell? _ _ P0
    go_wp2
    all_goals first
      | (go_ret2; exact ⟨rfl, HB.out.alloc HB.out.size _⟩)
      | (rename_i e0 e1 e2 e3; exact absurd HN.out (by rw [e0, e1, e2, e3]; exact HP.out))
  · refine (of_out H.out z (by omega) _).mono ?_
    rintro e w3 ⟨rfl, hb⟩
    replace HB := Lib.hid (below_then HB.out hb)
    replace HG := Lib.hid (both_keep HG.out hb)
    clear hb
    go_wp2
    go_ret2
    exact ⟨rfl, HB.out.alloc HB.out.size _⟩

theorem num_in (h : Geom.Sizes c l k p s U R L N) (u b g t a : Int) (hp : Geom.there U k p s u b g t) (ha : a = b * L + g * R + u * s + t) (w : World) :
    Calls Try.prog 28 #[.agg #[.int .i64 c, .int .i64 l, .int .i64 k, .int .i64 p, .int .i64 s], .agg #[.int .i64 u, .int .i64 b, .int .i64 g, .int .i64 t]] w fun e w' => e = .returned (.tuple #[.int .i64 a, .int .i64 0]) ∧ Below w.heap.size w w' := by
  obtain ⟨a0, a1, e0, e1, e2, e3⟩ := Geom.of_number h hp ha
  have hof := of_in h a a0 a1
  rw [e0, e1, e2, e3] at hof
  have HOF := Lib.hid hof
  have HNU := Lib.hid (fun z (hz : ∀ {U R L N : Int}, Geom.Sizes c l k p s U R L N → Geom.there U k p s u b g t → z = b * L + g * R + u * s + t) => (hz h hp).trans ha.symm)
  clear e0 e1 e2 e3 hof ha hp
  have hb0 := ((Below.refl w.heap.size w).alloc (Nat.le_refl _) (.cells #[.int .i64 c, .int .i64 l, .int .i64 k, .int .i64 p, .int .i64 s] 23))
  have HB := Lib.hid (hb0.alloc hb0.size (.cells #[.int .i64 u, .int .i64 b, .int .i64 g, .int .i64 t] 65))
  have HG := Lib.hid (And.intro (geo_keep (geo_new w 23 c l k p s) ((Below.refl _ _).alloc (Nat.le_refl _) (.cells #[.int .i64 u, .int .i64 b, .int .i64 g, .int .i64 t] 65))) (pla_new (w.alloc (.cells #[.int .i64 c, .int .i64 l, .int .i64 k, .int .i64 p, .int .i64 s] 23)) (w.heap.size + 1) (by simp) 65 u b g t))
  clear hb0
  go_enter Try.func28, Try.ntmps28
  go_wp2_with fail
  refine (number_any c l k p s u b g t _).mono ?_
  rintro e w2 ⟨z, rfl, hz, hb⟩
  replace HB := Lib.hid (below_then HB.out hb)
  replace HG := Lib.hid (both_keep HG.out hb)
  clear hb
  obtain rfl := HNU.out z hz
  clear hz
  obtain ⟨⟨G0, G1, G2, G3, G4⟩, P0, P1, P2, P3⟩ := HG.out
  go_wp2_with fail
  clear G0 G1 G2 G3 G4 P0 P1 P2 P3
  refine (HOF.out _).mono ?_
  rintro e w3 ⟨rfl, hb⟩
  replace HB := Lib.hid (below_then HB.out hb)
  replace HG := Lib.hid (both_keep HG.out hb)
  clear hb
  obtain ⟨P0, P1, P2, P3⟩ := HG.out.2
  have hlt : w.heap.size + 1 < w3.heap.size := World.block_lt_of_cell? _ _ P0
  go_wp2
  go_ret2
  exact ⟨rfl, HB.out.alloc HB.out.size _⟩

end
end Go.Proofs.Ytlmdlhfdacmcnaa
