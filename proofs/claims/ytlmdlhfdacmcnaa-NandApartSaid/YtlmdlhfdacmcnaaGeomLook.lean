/-
  What each function of package geom does, the fifth part: the look-up of a place.
-/
import Derived.Test.YtlmdlhfdacmcnaaGeomPlace
import Derived.Test.YtlmdlhfdacmcnaaGeomCounts
namespace Go.Proofs.Ytlmdlhfdacmcnaa
open Go.RowKit
set_option maxRecDepth 4000

section
variable {c l k p s U R L N : Int}

theorem look_bad (h : ¬ Geom.ok c l k p s) (a : Int) (v v' : Value) (w : World) :
    Calls Try.prog 74 #[.agg #[.int .i64 c, .int .i64 l, .int .i64 k, .int .i64 p, .int .i64 s], .int .i64 a, v, v'] w fun e w' => e = .returned (.tuple #[.agg #[.int .i64 0, .int .i64 0, .int .i64 0, .int .i64 0], .int .i64 1]) ∧ Below w.heap.size w w' := by
  have H := Lib.hid h
  have hb0 := ((Below.refl w.heap.size w).alloc (Nat.le_refl _) (.cells #[.int .i64 c, .int .i64 l, .int .i64 k, .int .i64 p, .int .i64 s] 23))
  have hb1 := hb0.alloc hb0.size (.cells #[.int .i64 0, .int .i64 0, .int .i64 0, .int .i64 0] 65)
  have HB := Lib.hid (hb1.alloc hb1.size (.cells #[.int .i64 0, .int .i64 0, .int .i64 0, .int .i64 0] 65))
  have HR := Lib.hid (room_keep (room_new (w.alloc (.cells #[.int .i64 c, .int .i64 l, .int .i64 k, .int .i64 p, .int .i64 s] 23)) (w.heap.size + 1) (by simp) 65) ((Below.refl _ _).alloc (Nat.le_refl _) (.cells #[.int .i64 0, .int .i64 0, .int .i64 0, .int .i64 0] 65)))
  have HN := Lib.hid (pla_new ((w.alloc (.cells #[.int .i64 c, .int .i64 l, .int .i64 k, .int .i64 p, .int .i64 s] 23)).alloc (.cells #[.int .i64 0, .int .i64 0, .int .i64 0, .int .i64 0] 65)) (w.heap.size + 2) (by simp) 65 0 0 0 0)
  clear h hb0 hb1
  go_enter Try.func74, Try.ntmps74
  go_wp2_with fail
  refine (right_bad H.out _).mono ?_
  rintro e w2 ⟨rfl, hb⟩
  replace HB := Lib.hid (below_then HB.out hb)
  replace HR := Lib.hid (room_keep HR.out hb)
  replace HN := Lib.hid (pla_keep HN.out hb)
  clear hb
  obtain ⟨⟨F0, F1, F2, F3⟩, Z0, Z1, Z2, Z3⟩ := HR.out
  obtain ⟨N0, N1, N2, N3⟩ := HN.out
  go_wp2
  clear F0 F1 F2 F3 Z0 Z1 Z2 Z3 N0 N1 N2 N3
  have hP := pla_set HR.out.1 0 0 0 0
  have HX := Lib.hid (below_set HB.out (Nat.le_succ _) 0 0 0 0)
  clear HR HN HB
  generalize World.setCell _ _ _ = X at hP HX ⊢
  obtain ⟨P0, P1, P2, P3⟩ := hP
  try simp only [Exit.inBlock, Exit.then]
  refine bodyPost_ret (v := .tuple #[.agg #[.int .i64 0, .int .i64 0, .int .i64 0, .int .i64 0], .int .i64 1]) ?_ rfl ⟨rfl, HX.out⟩
  simp [results, Try.results74, go_sem, P0, P1, P2, P3]

theorem look_neg (h : Geom.Sizes c l k p s U R L N) (a : Int) (ha : a < 0) (v v' : Value) (w : World) :
    Calls Try.prog 74 #[.agg #[.int .i64 c, .int .i64 l, .int .i64 k, .int .i64 p, .int .i64 s], .int .i64 a, v, v'] w fun e w' => e = .returned (.tuple #[.agg #[.int .i64 0, .int .i64 0, .int .i64 0, .int .i64 0], .int .i64 2]) ∧ Below w.heap.size w w' := by
  have H := Lib.hid h
  have hb0 := ((Below.refl w.heap.size w).alloc (Nat.le_refl _) (.cells #[.int .i64 c, .int .i64 l, .int .i64 k, .int .i64 p, .int .i64 s] 23))
  have hb1 := hb0.alloc hb0.size (.cells #[.int .i64 0, .int .i64 0, .int .i64 0, .int .i64 0] 65)
  have HB := Lib.hid (hb1.alloc hb1.size (.cells #[.int .i64 0, .int .i64 0, .int .i64 0, .int .i64 0] 65))
  have HR := Lib.hid (room_keep (room_new (w.alloc (.cells #[.int .i64 c, .int .i64 l, .int .i64 k, .int .i64 p, .int .i64 s] 23)) (w.heap.size + 1) (by simp) 65) ((Below.refl _ _).alloc (Nat.le_refl _) (.cells #[.int .i64 0, .int .i64 0, .int .i64 0, .int .i64 0] 65)))
  have HN := Lib.hid (pla_new ((w.alloc (.cells #[.int .i64 c, .int .i64 l, .int .i64 k, .int .i64 p, .int .i64 s] 23)).alloc (.cells #[.int .i64 0, .int .i64 0, .int .i64 0, .int .i64 0] 65)) (w.heap.size + 2) (by simp) 65 0 0 0 0)
  clear h hb0 hb1
  go_enter Try.func74, Try.ntmps74
  go_wp2_with fail
  refine (right_ok H.out.may _).mono ?_
  rintro e w2 ⟨rfl, hb⟩
  replace HB := Lib.hid (below_then HB.out hb)
  replace HR := Lib.hid (room_keep HR.out hb)
  replace HN := Lib.hid (pla_keep HN.out hb)
  clear hb
  obtain ⟨⟨F0, F1, F2, F3⟩, Z0, Z1, Z2, Z3⟩ := HR.out
  obtain ⟨N0, N1, N2, N3⟩ := HN.out
  go_wp2
  clear F0 F1 F2 F3 Z0 Z1 Z2 Z3 N0 N1 N2 N3
  have hP := pla_set HR.out.1 0 0 0 0
  have HX := Lib.hid (below_set HB.out (Nat.le_succ _) 0 0 0 0)
  clear HR HN HB
  generalize World.setCell _ _ _ = X at hP HX ⊢
  obtain ⟨P0, P1, P2, P3⟩ := hP
  try simp only [Exit.inBlock, Exit.then]
  refine bodyPost_ret (v := .tuple #[.agg #[.int .i64 0, .int .i64 0, .int .i64 0, .int .i64 0], .int .i64 2]) ?_ rfl ⟨rfl, HX.out⟩
  simp [results, Try.results74, go_sem, P0, P1, P2, P3]

theorem look_past (h : Geom.Sizes c l k p s U R L N) (a : Int) (h0 : 0 ≤ a) (h1 : N ≤ a) (v' : Value) (w : World) :
    Calls Try.prog 74 #[.agg #[.int .i64 c, .int .i64 l, .int .i64 k, .int .i64 p, .int .i64 s], .int .i64 a, .func (.func 75) #[.agg #[.int .i64 c, .int .i64 l, .int .i64 k, .int .i64 p, .int .i64 s]] #[], v'] w fun e w' => e = .returned (.tuple #[.agg #[.int .i64 0, .int .i64 0, .int .i64 0, .int .i64 0], .int .i64 2]) ∧ Below w.heap.size w w' := by
  have H := Lib.hid h
  have hb0 := ((Below.refl w.heap.size w).alloc (Nat.le_refl _) (.cells #[.int .i64 c, .int .i64 l, .int .i64 k, .int .i64 p, .int .i64 s] 23))
  have hb1 := hb0.alloc hb0.size (.cells #[.int .i64 0, .int .i64 0, .int .i64 0, .int .i64 0] 65)
  have HB := Lib.hid (hb1.alloc hb1.size (.cells #[.int .i64 0, .int .i64 0, .int .i64 0, .int .i64 0] 65))
  have HR := Lib.hid (room_keep (room_new (w.alloc (.cells #[.int .i64 c, .int .i64 l, .int .i64 k, .int .i64 p, .int .i64 s] 23)) (w.heap.size + 1) (by simp) 65) ((Below.refl _ _).alloc (Nat.le_refl _) (.cells #[.int .i64 0, .int .i64 0, .int .i64 0, .int .i64 0] 65)))
  have HN := Lib.hid (pla_new ((w.alloc (.cells #[.int .i64 c, .int .i64 l, .int .i64 k, .int .i64 p, .int .i64 s] 23)).alloc (.cells #[.int .i64 0, .int .i64 0, .int .i64 0, .int .i64 0] 65)) (w.heap.size + 2) (by simp) 65 0 0 0 0)
  clear h hb0 hb1
  go_enter Try.func74, Try.ntmps74
  go_wp2_with fail
  refine (right_ok H.out.may _).mono ?_
  rintro e w2 ⟨rfl, hb⟩
  replace HB := Lib.hid (below_then HB.out hb)
  replace HR := Lib.hid (room_keep HR.out hb)
  replace HN := Lib.hid (pla_keep HN.out hb)
  clear hb
  go_wp2_with fail
  refine (all_is H.out _).mono ?_
  rintro e w3 ⟨rfl, hb⟩
  replace HB := Lib.hid (below_then HB.out hb)
  replace HR := Lib.hid (room_keep HR.out hb)
  replace HN := Lib.hid (pla_keep HN.out hb)
  clear hb
  obtain ⟨⟨F0, F1, F2, F3⟩, Z0, Z1, Z2, Z3⟩ := HR.out
  obtain ⟨N0, N1, N2, N3⟩ := HN.out
  go_wp2
  clear F0 F1 F2 F3 Z0 Z1 Z2 Z3 N0 N1 N2 N3
  have hP := pla_set HR.out.1 0 0 0 0
  have HX := Lib.hid (below_set HB.out (Nat.le_succ _) 0 0 0 0)
  clear HR HN HB
  generalize World.setCell _ _ _ = X at hP HX ⊢
  obtain ⟨P0, P1, P2, P3⟩ := hP
  try simp only [Exit.inBlock, Exit.then]
  refine bodyPost_ret (v := .tuple #[.agg #[.int .i64 0, .int .i64 0, .int .i64 0, .int .i64 0], .int .i64 2]) ?_ rfl ⟨rfl, HX.out⟩
  simp [results, Try.results74, go_sem, P0, P1, P2, P3]

theorem look_in (h : Geom.Sizes c l k p s U R L N) (a : Int) (h0 : 0 ≤ a) (h1 : a < N) (w : World) :
    Calls Try.prog 74 #[.agg #[.int .i64 c, .int .i64 l, .int .i64 k, .int .i64 p, .int .i64 s], .int .i64 a, .func (.func 75) #[.agg #[.int .i64 c, .int .i64 l, .int .i64 k, .int .i64 p, .int .i64 s]] #[], .func (.func 76) #[.agg #[.int .i64 c, .int .i64 l, .int .i64 k, .int .i64 p, .int .i64 s]] #[]] w fun e w' => e = .returned (.tuple #[.agg #[.int .i64 (a % R / s), .int .i64 (a / L), .int .i64 (a % L / R), .int .i64 (a % s)], .int .i64 0]) ∧ Below w.heap.size w w' := by
  have hpl := place_is h a h0 h1
  generalize a % R / s = x0 at hpl ⊢
  generalize a / L = x1 at hpl ⊢
  generalize a % L / R = x2 at hpl ⊢
  generalize a % s = x3 at hpl ⊢
  have HPL := Lib.hid hpl
  clear hpl
  have H := Lib.hid h
  have hb0 := ((Below.refl w.heap.size w).alloc (Nat.le_refl _) (.cells #[.int .i64 c, .int .i64 l, .int .i64 k, .int .i64 p, .int .i64 s] 23))
  have hb1 := hb0.alloc hb0.size (.cells #[.int .i64 0, .int .i64 0, .int .i64 0, .int .i64 0] 65)
  have HB := Lib.hid (hb1.alloc hb1.size (.cells #[.int .i64 0, .int .i64 0, .int .i64 0, .int .i64 0] 65))
  have HR := Lib.hid (room_keep (room_new (w.alloc (.cells #[.int .i64 c, .int .i64 l, .int .i64 k, .int .i64 p, .int .i64 s] 23)) (w.heap.size + 1) (by simp) 65) ((Below.refl _ _).alloc (Nat.le_refl _) (.cells #[.int .i64 0, .int .i64 0, .int .i64 0, .int .i64 0] 65)))
  have HN := Lib.hid (pla_new ((w.alloc (.cells #[.int .i64 c, .int .i64 l, .int .i64 k, .int .i64 p, .int .i64 s] 23)).alloc (.cells #[.int .i64 0, .int .i64 0, .int .i64 0, .int .i64 0] 65)) (w.heap.size + 2) (by simp) 65 0 0 0 0)
  clear h hb0 hb1
  go_enter Try.func74, Try.ntmps74
  go_wp2_with fail
  refine (right_ok H.out.may _).mono ?_
  rintro e w2 ⟨rfl, hb⟩
  replace HB := Lib.hid (below_then HB.out hb)
  replace HR := Lib.hid (room_keep HR.out hb)
  replace HN := Lib.hid (pla_keep HN.out hb)
  clear hb
  go_wp2_with fail
  refine (all_is H.out _).mono ?_
  rintro e w3 ⟨rfl, hb⟩
  replace HB := Lib.hid (below_then HB.out hb)
  replace HR := Lib.hid (room_keep HR.out hb)
  replace HN := Lib.hid (pla_keep HN.out hb)
  clear hb
  go_wp2_with fail
  refine (HPL.out _).mono ?_
  rintro e w4 ⟨rfl, hb⟩
  replace HB := Lib.hid (below_then HB.out hb)
  replace HR := Lib.hid (room_keep HR.out hb)
  replace HN := Lib.hid (pla_keep HN.out hb)
  clear hb
  obtain ⟨⟨F0, F1, F2, F3⟩, Z0, Z1, Z2, Z3⟩ := HR.out
  obtain ⟨N0, N1, N2, N3⟩ := HN.out
  go_wp2
  clear F0 F1 F2 F3 Z0 Z1 Z2 Z3 N0 N1 N2 N3
  have hP := pla_set HR.out.1 x0 x1 x2 x3
  have HX := Lib.hid (below_set HB.out (Nat.le_succ _) x0 x1 x2 x3)
  clear HR HN HB
  generalize World.setCell _ _ _ = X at hP HX ⊢
  obtain ⟨P0, P1, P2, P3⟩ := hP
  try simp only [Exit.inBlock, Exit.then]
  refine bodyPost_ret (v := .tuple #[.agg #[.int .i64 x0, .int .i64 x1, .int .i64 x2, .int .i64 x3], .int .i64 0]) ?_ rfl ⟨rfl, HX.out⟩
  simp [results, Try.results74, go_sem, P0, P1, P2, P3]

end
end Go.Proofs.Ytlmdlhfdacmcnaa
