/-
  The document's answer for layer 3: one contract a function (Of apart).
-/
import Derived.Test.YtnnonkmkdjhacaaGeomNum
namespace Go.Proofs.Ytnnonkmkdjhacaa
open Go.RowKit
set_option maxRecDepth 4000

theorem rright_any (c l k p s : Int) (w : World) :
    Calls Try.prog 28 #[.agg #[.int .i64 c, .int .i64 l, .int .i64 k, .int .i64 p, .int .i64 s]] w fun e w' => e = .returned (.bool (decide (Geom.ok c l k p s))) ∧ Below w.heap.size w w' := by
  have HB := Lib.hid ((Below.refl w.heap.size w).alloc (Nat.le_refl _) (.cells #[.int .i64 c, .int .i64 l, .int .i64 k, .int .i64 p, .int .i64 s] 23))
  have done : ∀ {x y : Bool} {w'}, x = y → Below w.heap.size w w' → Ending.returned (.bool x) = .returned (.bool y) ∧ Below w.heap.size w w' := fun h hb => ⟨by rw [h], hb⟩
  go_enter Try.func28, Try.ntmps28
  go_wp2
  all_goals go_ret
  all_goals refine done ?_ HB.out
  all_goals rw [Bool.eq_iff_iff]
  all_goals simp only [decide_eq_true_eq, Bool.false_eq_true, false_iff]
  all_goals unfold Geom.ok
  all_goals omega

section
variable {c l k p s U R L N : Int}

theorem rright_ok (h : Geom.ok c l k p s) (w : World) :
    Calls Try.prog 28 #[.agg #[.int .i64 c, .int .i64 l, .int .i64 k, .int .i64 p, .int .i64 s]] w fun e w' => e = .returned (.bool true) ∧ Below w.heap.size w w' :=
  (rright_any c l k p s w).mono fun e w' ⟨he, hb⟩ => ⟨by rw [he, decide_eq_true h], hb⟩

theorem rright_bad (h : ¬ Geom.ok c l k p s) (w : World) :
    Calls Try.prog 28 #[.agg #[.int .i64 c, .int .i64 l, .int .i64 k, .int .i64 p, .int .i64 s]] w fun e w' => e = .returned (.bool false) ∧ Below w.heap.size w w' :=
  (rright_any c l k p s w).mono fun e w' ⟨he, hb⟩ => ⟨by rw [he, decide_eq_false h], hb⟩

theorem runits_ok (h : Geom.Sizes c l k p s U R L N) (w : World) :
    Calls Try.prog 29 #[.agg #[.int .i64 c, .int .i64 l, .int .i64 k, .int .i64 p, .int .i64 s]] w fun e w' => e = .returned (.int .i64 U) ∧ Below w.heap.size w w' := by
  have HW := Lib.hid (show wrap64 (c * l) = U by have := h.u0; have := h.u1; have := h.u; rw [wrap_is (by omega) (by omega)]; exact h.u.symm)
  have H := Lib.hid h
  clear h
  have HB := Lib.hid ((Below.refl w.heap.size w).alloc (Nat.le_refl _) (.cells #[.int .i64 c, .int .i64 l, .int .i64 k, .int .i64 p, .int .i64 s] 23))
  have HG := Lib.hid (geo_new w 23 c l k p s)
  go_enter Try.func29, Try.ntmps29
  go_wp2_with fail
  refine (rright_ok H.out.may _).mono ?_
  rintro e w2 ⟨rfl, hb⟩
  replace HB := Lib.hid (below_then HB.out hb)
  replace HG := Lib.hid (geo_keep HG.out hb)
  clear hb
  obtain ⟨G0, G1, G2, G3, G4⟩ := HG.out
  go_wp2
  go_ret
  exact ⟨congrArg (fun x => Ending.returned (.int .i64 x)) HW.out, HB.out⟩

theorem runits_bad (h : ¬ Geom.ok c l k p s) (w : World) :
    Calls Try.prog 29 #[.agg #[.int .i64 c, .int .i64 l, .int .i64 k, .int .i64 p, .int .i64 s]] w fun e w' => e = .returned (.int .i64 0) ∧ Below w.heap.size w w' := by
  have H := Lib.hid h
  clear h
  have HB := Lib.hid ((Below.refl w.heap.size w).alloc (Nat.le_refl _) (.cells #[.int .i64 c, .int .i64 l, .int .i64 k, .int .i64 p, .int .i64 s] 23))
  have HG := Lib.hid (geo_new w 23 c l k p s)
  go_enter Try.func29, Try.ntmps29
  go_wp2_with fail
  refine (rright_bad H.out _).mono ?_
  rintro e w2 ⟨rfl, hb⟩
  replace HB := Lib.hid (below_then HB.out hb)
  replace HG := Lib.hid (geo_keep HG.out hb)
  clear hb
  go_wp2
  go_ret
  exact ⟨rfl, HB.out⟩

end
end Go.Proofs.Ytnnonkmkdjhacaa
