/-
  What each function of package geom does, the third part: the place of an address.
-/
import Derived.Test.YtlmdlhfdacmcnaaGeomNumber
namespace Go.Proofs.Ytlmdlhfdacmcnaa
open Go.RowKit
set_option maxRecDepth 4000

theorem frozen_stays {w w' : World} {a : Addr} {v : Value} (hb : Below w.heap.size w w') (h : w.cell? a = some v) (hf : w.frozen? a = false) : w'.frozen? a = false :=
  (hb.frozen (World.block_lt_of_cell? w a h)).trans hf

/-- Four cells of an int each that may be written. -/
def Room (w : World) (b : Nat) : Prop := Pla w b 0 0 0 0 ∧ w.frozen? ⟨b, 0, none⟩ = false ∧ w.frozen? ⟨b, 1, none⟩ = false ∧ w.frozen? ⟨b, 2, none⟩ = false ∧ w.frozen? ⟨b, 3, none⟩ = false

theorem room_keep {w w' : World} {b : Nat} (h : Room w b) (hb : Below w.heap.size w w') : Room w' b :=
  ⟨pla_keep h.1 hb, frozen_stays hb h.1.1 h.2.1, frozen_stays hb h.1.2.1 h.2.2.1, frozen_stays hb h.1.2.2.1 h.2.2.2.1, frozen_stays hb h.1.2.2.2 h.2.2.2.2⟩

theorem room_new (w : World) (B : Nat) (hB : w.heap.size = B) (ty : TypeId) : Room (w.alloc (.cells #[.int .i64 0, .int .i64 0, .int .i64 0, .int .i64 0] ty)) B := by
  refine ⟨pla_new w B hB ty 0 0 0 0, ?_⟩
  subst hB
  exact ⟨World.frozen?_alloc_at _ _ _ _ rfl, World.frozen?_alloc_at _ _ _ _ rfl, World.frozen?_alloc_at _ _ _ _ rfl, World.frozen?_alloc_at _ _ _ _ rfl⟩

theorem pla_set {w : World} {b : Nat} {x0 x1 x2 x3 : Int} (h : Pla w b x0 x1 x2 x3) (u k g t : Int) :
    Pla ((((w.setCell ⟨b, 0, none⟩ (.int .i64 u)).setCell ⟨b, 1, none⟩ (.int .i64 k)).setCell ⟨b, 2, none⟩ (.int .i64 g)).setCell ⟨b, 3, none⟩ (.int .i64 t)) b u k g t := by
  obtain ⟨h0, h1, h2, h3⟩ := h
  refine ⟨?_, ?_, ?_, ?_⟩
  · rw [World.cell?_setCell_other _ _ _ _ (by simp), World.cell?_setCell_other _ _ _ _ (by simp), World.cell?_setCell_other _ _ _ _ (by simp), World.cell?_setCell_same _ _ _ h0]
  · rw [World.cell?_setCell_other _ _ _ _ (by simp), World.cell?_setCell_other _ _ _ _ (by simp)]
    exact World.cell?_setCell_same _ _ _ ((World.cell?_setCell_other _ _ _ _ (by simp)).trans h1)
  · rw [World.cell?_setCell_other _ _ _ _ (by simp)]
    exact World.cell?_setCell_same _ _ _ ((World.cell?_setCell_other _ _ _ _ (by simp)).trans ((World.cell?_setCell_other _ _ _ _ (by simp)).trans h2))
  · exact World.cell?_setCell_same _ _ _ ((World.cell?_setCell_other _ _ _ _ (by simp)).trans ((World.cell?_setCell_other _ _ _ _ (by simp)).trans ((World.cell?_setCell_other _ _ _ _ (by simp)).trans h3)))

theorem below_set {a w : World} {b : Nat} (h : Below a.heap.size a w) (hb : a.heap.size ≤ b) (u k g t : Int) :
    Below a.heap.size a ((((w.setCell ⟨b, 0, none⟩ (.int .i64 u)).setCell ⟨b, 1, none⟩ (.int .i64 k)).setCell ⟨b, 2, none⟩ (.int .i64 g)).setCell ⟨b, 3, none⟩ (.int .i64 t)) :=
  (((h.setCell (p := ⟨b, 0, none⟩) hb _).setCell (p := ⟨b, 1, none⟩) hb _).setCell (p := ⟨b, 2, none⟩) hb _).setCell (p := ⟨b, 3, none⟩) hb _

set_option maxHeartbeats 1000000 in
theorem place_is {c l k p s U R L N : Int} (h : Geom.Sizes c l k p s U R L N) (a : Int) (h0 : 0 ≤ a) (h1 : a < N) (w : World) :
    Calls Try.prog 76 #[.agg #[.int .i64 c, .int .i64 l, .int .i64 k, .int .i64 p, .int .i64 s], .int .i64 a] w fun e w' => e = .returned (.agg #[.int .i64 (a % R / s), .int .i64 (a / L), .int .i64 (a % L / R), .int .i64 (a % s)]) ∧ Below w.heap.size w w' := by
  have hb0 := (Below.refl w.heap.size w).alloc (Nat.le_refl _) (.cells #[.int .i64 c, .int .i64 l, .int .i64 k, .int .i64 p, .int .i64 s] 88)
  have HB := Lib.hid (hb0.alloc hb0.size (.cells #[.int .i64 0, .int .i64 0, .int .i64 0, .int .i64 0] 65)).drew
  have HG := Lib.hid (geo_keep (geo_new w 88 c l k p s) ((Below.refl _ _).alloc (Nat.le_refl _) (.cells #[.int .i64 0, .int .i64 0, .int .i64 0, .int .i64 0] 65)))
  have HR := Lib.hid (show Room ((w.alloc (.cells #[.int .i64 c, .int .i64 l, .int .i64 k, .int .i64 p, .int .i64 s] 88)).alloc (.cells #[.int .i64 0, .int .i64 0, .int .i64 0, .int .i64 0] 65)).drew (w.heap.size + 1) from room_new (w.alloc (.cells #[.int .i64 c, .int .i64 l, .int .i64 k, .int .i64 p, .int .i64 s] 88)) (w.heap.size + 1) (by simp) 65)
  clear hb0
  have H := Lib.hid h
  have hR : ¬ R = 0 := by have := h.r0; omega
  have hL : ¬ L = 0 := by have := h.l0; omega
  have hs : ¬ s = 0 := by have := h.may; unfold Geom.ok at this; omega
  have hn := Geom.number_of h h0 h1
  obtain ⟨⟨m0, m1, m2, m3, m4, m5, m6, m7⟩, _⟩ := hn
  have hm := h.may
  have hu1 := h.u1
  unfold Geom.ok at hm
  have E0 := Lib.hid (show IntKind.i64.wrap ((a.tmod R).tdiv s) = a % R / s by
    rw [Int.tmod_eq_emod_of_nonneg h0, Int.tdiv_eq_ediv_of_nonneg (Int.emod_nonneg a hR)]
    exact kwrap_is (by omega) (by omega))
  have E1 := Lib.hid (show IntKind.i64.wrap (a.tdiv L) = a / L by
    rw [Int.tdiv_eq_ediv_of_nonneg h0]
    exact kwrap_is (by omega) (by omega))
  have E2 := Lib.hid (show IntKind.i64.wrap ((a.tmod L).tdiv R) = a % L / R by
    rw [Int.tmod_eq_emod_of_nonneg h0, Int.tdiv_eq_ediv_of_nonneg (Int.emod_nonneg a hL)]
    exact kwrap_is (by omega) (by omega))
  have E3 := Lib.hid (show a.tmod s = a % s from Int.tmod_eq_emod_of_nonneg h0)
  clear h hm hu1 m0 m1 m2 m3 m4 m5 m6 m7
  generalize a % R / s = x0 at E0 ⊢
  generalize a / L = x1 at E1 ⊢
  generalize a % L / R = x2 at E2 ⊢
  generalize a % s = x3 at E3 ⊢
  obtain ⟨⟨F0, F1, F2, F3⟩, Z0, Z1, Z2, Z3⟩ := HR.out
  go_enter Try.func76, Try.ntmps76
  go_wp2
  go_region_held (fun w' => w'.cell? ⟨w.heap.size, 0, none⟩ = some (.int .i64 c) ∧ w'.cell? ⟨w.heap.size, 1, none⟩ = some (.int .i64 l) ∧ w'.cell? ⟨w.heap.size, 2, none⟩ = some (.int .i64 k) ∧ w'.cell? ⟨w.heap.size, 3, none⟩ = some (.int .i64 p) ∧ w'.cell? ⟨w.heap.size, 4, none⟩ = some (.int .i64 s)) (first | exact HG.out | exact geo_keep (by assumption) hb | go_keep)
    (first
      | (go_at_call 73; refine (row_is H.out _).mono ?_; rintro e w2 ⟨rfl, hb⟩; replace HB := Lib.hid (below_then HB.out hb); replace HR := Lib.hid (room_keep HR.out hb); clear F0 F1 F2 F3 Z0 Z1 Z2 Z3; obtain ⟨⟨F0, F1, F2, F3⟩, Z0, Z1, Z2, Z3⟩ := HR.out)
      | (go_at_call 72; refine (line_is H.out _).mono ?_; rintro e w2 ⟨rfl, hb⟩; replace HB := Lib.hid (below_then HB.out hb); replace HR := Lib.hid (room_keep HR.out hb); clear F0 F1 F2 F3 Z0 Z1 Z2 Z3; obtain ⟨⟨F0, F1, F2, F3⟩, Z0, Z1, Z2, Z3⟩ := HR.out))
  rename_i hH
  clear hH F0 F1 F2 F3 Z0 Z1 Z2 Z3
  rw [E0.out, E1.out, E2.out, E3.out]
  have hP := pla_set HR.out.1 x0 x1 x2 x3
  have HX := Lib.hid (below_set HB.out (Nat.le_succ _) x0 x1 x2 x3)
  clear hb hR hL hs
  generalize World.setCell _ _ _ = X at hP HX ⊢
  obtain ⟨P0, P1, P2, P3⟩ := hP
  go_wp2
  try simp only [Exit.inBlock, Exit.then]
  refine bodyPost_ret (v := .agg #[.int .i64 x0, .int .i64 x1, .int .i64 x2, .int .i64 x3]) ?_ rfl ⟨rfl, HX.out⟩
  simp [results, Try.results76, go_sem, P0, P1, P2, P3]

end Go.Proofs.Ytlmdlhfdacmcnaa
