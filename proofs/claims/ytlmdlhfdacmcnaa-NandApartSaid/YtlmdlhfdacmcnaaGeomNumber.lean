/-
  What each function of package geom does, the second part: the number of a place.
-/
import Derived.Test.YtlmdlhfdacmcnaaGeomWalks
namespace Go.Proofs.Ytlmdlhfdacmcnaa
open Go.RowKit
set_option maxRecDepth 4000

/-- A place in a block of its own. -/
abbrev Pla (w : World) (b : Nat) (u k g t : Int) : Prop := w.cell? ⟨b, 0, none⟩ = some (.int .i64 u) ∧ w.cell? ⟨b, 1, none⟩ = some (.int .i64 k) ∧ w.cell? ⟨b, 2, none⟩ = some (.int .i64 g) ∧ w.cell? ⟨b, 3, none⟩ = some (.int .i64 t)

theorem pla_keep {w w' : World} {b : Nat} {u k g t : Int} (h : Pla w b u k g t) (hb : Below w.heap.size w w') : Pla w' b u k g t :=
  ⟨cell_stays hb h.1, cell_stays hb h.2.1, cell_stays hb h.2.2.1, cell_stays hb h.2.2.2⟩

theorem pla_new (w : World) (B : Nat) (hB : w.heap.size = B) (ty : TypeId) (u k g t : Int) : Pla (w.alloc (.cells #[.int .i64 u, .int .i64 k, .int .i64 g, .int .i64 t] ty)) B u k g t := by
  subst hB
  refine ⟨?_, ?_, ?_, ?_⟩ <;> simp [World.cell?_alloc_at]

theorem both_keep {w w' : World} {b b' : Nat} {c l k p s u k' g t : Int} (h : Geo w b c l k p s ∧ Pla w b' u k' g t) (hb : Below w.heap.size w w') : Geo w' b c l k p s ∧ Pla w' b' u k' g t :=
  ⟨geo_keep h.1 hb, pla_keep h.2 hb⟩

set_option maxHeartbeats 1000000 in
theorem number_any (c l k p s u b g t : Int) (w : World) :
    Calls Try.prog 55 #[.agg #[.int .i64 c, .int .i64 l, .int .i64 k, .int .i64 p, .int .i64 s], .agg #[.int .i64 u, .int .i64 b, .int .i64 g, .int .i64 t]] w fun e w' => ∃ z, e = .returned (.int .i64 z) ∧ (∀ {U R L N : Int}, Geom.Sizes c l k p s U R L N → Geom.there U k p s u b g t → z = b * L + g * R + u * s + t) ∧ Below w.heap.size w w' := by
  have hb0 := (Below.refl w.heap.size w).alloc (Nat.le_refl _) (.cells #[.int .i64 c, .int .i64 l, .int .i64 k, .int .i64 p, .int .i64 s] 88)
  have HB := Lib.hid (hb0.alloc hb0.size (.cells #[.int .i64 u, .int .i64 b, .int .i64 g, .int .i64 t] 65))
  have hg0 := geo_new w 88 c l k p s
  have HG := Lib.hid (And.intro (geo_keep hg0 ((Below.refl _ _).alloc (Nat.le_refl _) (.cells #[.int .i64 u, .int .i64 b, .int .i64 g, .int .i64 t] 65))) (pla_new (w.alloc (.cells #[.int .i64 c, .int .i64 l, .int .i64 k, .int .i64 p, .int .i64 s] 88)) (w.heap.size + 1) (by simp) 65 u b g t))
  clear hb0 hg0
  go_enter Try.func55, Try.ntmps55
  go_wp2
  go_region_held (fun w' => (w'.cell? ⟨w.heap.size, 0, none⟩ = some (.int .i64 c) ∧ w'.cell? ⟨w.heap.size, 1, none⟩ = some (.int .i64 l) ∧ w'.cell? ⟨w.heap.size, 2, none⟩ = some (.int .i64 k) ∧ w'.cell? ⟨w.heap.size, 3, none⟩ = some (.int .i64 p) ∧ w'.cell? ⟨w.heap.size, 4, none⟩ = some (.int .i64 s)) ∧ w'.cell? ⟨w.heap.size + 1, 0, none⟩ = some (.int .i64 u) ∧ w'.cell? ⟨w.heap.size + 1, 1, none⟩ = some (.int .i64 b) ∧ w'.cell? ⟨w.heap.size + 1, 2, none⟩ = some (.int .i64 g) ∧ w'.cell? ⟨w.heap.size + 1, 3, none⟩ = some (.int .i64 t)) (first | exact HG.out | exact both_keep (by assumption) hb)
    (first
      | (go_at_call 73; refine (row_any c l k p s _).mono ?_; rintro e w3 ⟨z2, rfl, hz2, hb⟩; have HB3 := Lib.hid (below_then HB2.out hb))
      | (go_at_call 72; refine (line_any c l k p s _).mono ?_; rintro e w2 ⟨z1, rfl, hz1, hb⟩; have HB2 := Lib.hid (below_then HB.out.drew hb)))
  go_wp2
  go_ret
  refine ⟨_, rfl, ?_, HB3.out⟩
  intro U R L N h hp
  rw [hz1 h.may, hz2 h.may, ← h.u, ← h.r, ← h.l]
  obtain ⟨e1, e2, e3, e4, e5⟩ := Geom.parts_bd h hp
  rw [kwrap_is (n := b * L) (by omega) (by omega), kwrap_is (n := g * R) (by omega) (by omega), kwrap_is (n := u * s) (by omega) (by omega), kwrap_is (n := b * L + g * R) (by omega) (by omega), kwrap_is (n := b * L + g * R + u * s) (by omega) (by omega)]
  exact kwrap_is (by omega) (by omega)

end Go.Proofs.Ytlmdlhfdacmcnaa
