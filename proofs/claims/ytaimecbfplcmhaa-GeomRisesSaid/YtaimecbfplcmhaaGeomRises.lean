/-
  GeomRises: for any geometry and any two addresses the law answers true. No condition.
-/
import Derived.Test.YtaimecbfplcmhaaGeomKit
import Derived.Deep.DeepCutAuto
namespace Go.Proofs.Ytaimecbfplcmhaa.geomRises
open Go.ChangeShapes Go.WideShapes Go.ChangeAt Go.RowKit
set_option maxRecDepth 4000

section
variable {c l k p s U R L N a b : Int}

theorem early {x0 x1 x2 x3 ea y0 y1 y2 y3 eb : Int} (h1 : (∀ w, Calls Try.prog 19 #[.agg #[.int .i64 c, .int .i64 l, .int .i64 k, .int .i64 p, .int .i64 s], .int .i64 a] w fun e w' => e = .returned (.tuple #[.agg #[.int .i64 x0, .int .i64 x1, .int .i64 x2, .int .i64 x3], .int .i64 ea]) ∧ Below w.heap.size w w')) (h2 : (∀ w, Calls Try.prog 19 #[.agg #[.int .i64 c, .int .i64 l, .int .i64 k, .int .i64 p, .int .i64 s], .int .i64 b] w fun e w' => e = .returned (.tuple #[.agg #[.int .i64 y0, .int .i64 y1, .int .i64 y2, .int .i64 y3], .int .i64 eb]) ∧ Below w.heap.size w w')) (hc : ea ≠ 0 ∨ eb ≠ 0 ∨ b ≤ a) (w : World) :
    Calls Try.prog 7 #[.agg #[.int .i64 c, .int .i64 l, .int .i64 k, .int .i64 p, .int .i64 s], .int .i64 a, .int .i64 b] w fun e w' => e = .returned (.bool true) ∧ Below w.heap.size w w' := by
  have HO1 := Lib.hid h1
  have HO2 := Lib.hid h2
  clear h1 h2
  have HB := Lib.hid ((Below.refl w.heap.size w).alloc (Nat.le_refl _) (.cells #[.int .i64 c, .int .i64 l, .int .i64 k, .int .i64 p, .int .i64 s] 23))
  have HG := Lib.hid (geo_new w 23 c l k p s)
  go_enter Try.func7, Try.ntmps7
  go_wp2_with fail
  refine (awake_any _).mono ?_
  rintro e w1 ⟨rfl, hb⟩
  replace HB := Lib.hid (below_then HB.out hb)
  replace HG := Lib.hid (geo_keep HG.out hb)
  clear hb
  obtain ⟨G0, G1, G2, G3, G4⟩ := HG.out
  go_wp2_with fail
  clear G0 G1 G2 G3 G4
  refine (HO1.out _).mono ?_
  rintro e w2 ⟨rfl, hb⟩
  replace HB := Lib.hid (below_then HB.out hb)
  replace HG := Lib.hid (geo_keep HG.out hb)
  clear hb
  obtain ⟨G0, G1, G2, G3, G4⟩ := HG.out
  have hlt : w.heap.size < w2.heap.size := World.block_lt_of_cell? _ _ G0
  go_wp2_with fail
  clear G0 G1 G2 G3 G4
  refine (HO2.out _).mono ?_
  rintro e w3 ⟨rfl, hb⟩
  have hal := (Below.refl w2.heap.size w2).alloc (Nat.le_refl _) (.cells #[.int .i64 x0, .int .i64 x1, .int .i64 x2, .int .i64 x3] 28)
  have hh := pla_keep (pla_new w2 w2.heap.size rfl 28 x0 x1 x2 x3) hb
  replace HB := Lib.hid (below_then (below_then HB.out hal) hb)
  replace HG := Lib.hid (geo_keep (geo_keep HG.out hal) hb)
  clear hb hal hlt
  generalize w2.heap.size = Q at hh ⊢
  clear hh HG
  by_cases e1 : ea = 0
  · by_cases e2 : eb = 0
    · have e3 : b ≤ a := by omega
      clear hc
      go_wp2
      go_ret
      exact ⟨rfl, HB.out.alloc HB.out.size _⟩
    · go_wp2
      go_ret
      exact ⟨rfl, HB.out.alloc HB.out.size _⟩
  · go_wp2
    go_ret
    exact ⟨rfl, HB.out.alloc HB.out.size _⟩

theorem three_keep {w w' : World} {b q q2 : Nat} {c l k p s : Int} {v v2 : Value} (h : Geo w b c l k p s ∧ w.cell? ⟨q, 1, none⟩ = some v ∧ w.cell? ⟨q2, 1, none⟩ = some v2) (hb : Below w.heap.size w w') :
    Geo w' b c l k p s ∧ w'.cell? ⟨q, 1, none⟩ = some v ∧ w'.cell? ⟨q2, 1, none⟩ = some v2 :=
  ⟨geo_keep h.1 hb, cell_stays hb h.2.1, cell_stays hb h.2.2⟩

set_option maxHeartbeats 1000000 in
theorem later {x0 x1 x2 x3 y0 y1 y2 y3 : Int} (h : Geom.Sizes c l k p s U R L N) (h1 : (∀ w, Calls Try.prog 19 #[.agg #[.int .i64 c, .int .i64 l, .int .i64 k, .int .i64 p, .int .i64 s], .int .i64 a] w fun e w' => e = .returned (.tuple #[.agg #[.int .i64 x0, .int .i64 x1, .int .i64 x2, .int .i64 x3], .int .i64 0]) ∧ Below w.heap.size w w')) (h2 : (∀ w, Calls Try.prog 19 #[.agg #[.int .i64 c, .int .i64 l, .int .i64 k, .int .i64 p, .int .i64 s], .int .i64 b] w fun e w' => e = .returned (.tuple #[.agg #[.int .i64 y0, .int .i64 y1, .int .i64 y2, .int .i64 y3], .int .i64 0]) ∧ Below w.heap.size w w')) (hab : a < b) (hne : ¬ (x0 = y0 ∧ x1 = y1 ∧ x2 = y2 ∧ x3 = y3)) (hx : x1 ≤ y1) (hxx : x1 = y1 → x2 ≤ y2)
    (ea : IntKind.i64.wrap (a.tdiv L) = x1) (eb : IntKind.i64.wrap (b.tdiv L) = y1) (w : World) :
    Calls Try.prog 7 #[.agg #[.int .i64 c, .int .i64 l, .int .i64 k, .int .i64 p, .int .i64 s], .int .i64 a, .int .i64 b] w fun e w' => e = .returned (.bool true) ∧ Below w.heap.size w w' := by
  have HO1 := Lib.hid h1
  have HO2 := Lib.hid h2
  have H := Lib.hid h
  have HNE := Lib.hid hne
  have HXX := Lib.hid hxx
  have EA := Lib.hid ea
  have EB := Lib.hid eb
  have hL : ¬ L = 0 := by have := h.l0; omega
  clear h1 h2 h hne hxx ea eb
  have HB := Lib.hid ((Below.refl w.heap.size w).alloc (Nat.le_refl _) (.cells #[.int .i64 c, .int .i64 l, .int .i64 k, .int .i64 p, .int .i64 s] 23))
  have HG := Lib.hid (geo_new w 23 c l k p s)
  go_enter Try.func7, Try.ntmps7
  go_wp2_with fail
  refine (awake_any _).mono ?_
  rintro e w1 ⟨rfl, hb⟩
  replace HB := Lib.hid (below_then HB.out hb)
  replace HG := Lib.hid (geo_keep HG.out hb)
  clear hb
  obtain ⟨G0, G1, G2, G3, G4⟩ := HG.out
  go_wp2_with fail
  clear G0 G1 G2 G3 G4
  refine (HO1.out _).mono ?_
  rintro e w2 ⟨rfl, hb⟩
  replace HB := Lib.hid (below_then HB.out hb)
  replace HG := Lib.hid (geo_keep HG.out hb)
  clear hb
  obtain ⟨G0, G1, G2, G3, G4⟩ := HG.out
  have hlt : w.heap.size < w2.heap.size := World.block_lt_of_cell? _ _ G0
  go_wp2_with fail
  clear G0 G1 G2 G3 G4
  refine (HO2.out _).mono ?_
  rintro e w3 ⟨rfl, hb⟩
  have hal := (Below.refl w2.heap.size w2).alloc (Nat.le_refl _) (.cells #[.int .i64 x0, .int .i64 x1, .int .i64 x2, .int .i64 x3] 28)
  have hh := pla_keep (pla_new w2 w2.heap.size rfl 28 x0 x1 x2 x3) hb
  replace HB := Lib.hid (below_then (below_then HB.out hal) hb)
  replace HG := Lib.hid (geo_keep (geo_keep HG.out hal) hb)
  clear hb hal hlt
  generalize w2.heap.size = Q at hh ⊢
  go_upto_region 4 with fail
  have hal := (Below.refl w3.heap.size w3).alloc (Nat.le_refl _) (.cells #[.int .i64 y0, .int .i64 y1, .int .i64 y2, .int .i64 y3] 28)
  have hh2 := pla_new w3 w3.heap.size rfl 28 y0 y1 y2 y3
  replace hh := pla_keep hh hal
  replace HB := Lib.hid (below_then HB.out hal)
  replace HG := Lib.hid (geo_keep HG.out hal)
  clear hal
  generalize w3.heap.size = Q2 at hh2 ⊢
  generalize World.alloc _ _ = X at hh hh2 HB HG ⊢
  have HS := Lib.hid (show Geo X.drew w.heap.size c l k p s ∧ X.drew.cell? ⟨Q, 1, none⟩ = some (.int .i64 x1) ∧ X.drew.cell? ⟨Q2, 1, none⟩ = some (.int .i64 y1) from ⟨HG.out, hh.2.1, hh2.2.1⟩)
  obtain ⟨P0, P1, P2, P3⟩ := hh
  obtain ⟨R0, R1, R2, R3⟩ := hh2
  replace HB := Lib.hid HB.out.drew
  rcases Decidable.em (x1 = y1) with rfl | e1
  · have hx2 := HXX.out rfl
    rcases Decidable.em (x2 = y2) with rfl | e2
    · rcases Decidable.em (x0 = y0) with rfl | e0
      · have e3 : ¬ x3 = y3 := fun e3 => HNE.out ⟨rfl, rfl, rfl, e3⟩
        go_wp2
        go_region_held (fun w' => (w'.cell? ⟨w.heap.size, 0, none⟩ = some (.int .i64 c) ∧ w'.cell? ⟨w.heap.size, 1, none⟩ = some (.int .i64 l) ∧ w'.cell? ⟨w.heap.size, 2, none⟩ = some (.int .i64 k) ∧ w'.cell? ⟨w.heap.size, 3, none⟩ = some (.int .i64 p) ∧ w'.cell? ⟨w.heap.size, 4, none⟩ = some (.int .i64 s)) ∧ w'.cell? ⟨Q, 1, none⟩ = some (.int .i64 x1) ∧ w'.cell? ⟨Q2, 1, none⟩ = some (.int .i64 x1)) (first | exact HS.out | exact three_keep (by assumption) hb)
          (first
            | (go_at_call 15; refine (Line_ok H.out _).mono ?_; rintro e w2 ⟨rfl, hb⟩; replace HB := Lib.hid (below_then HB.out hb)))
        rename_i hH
        clear hH
        rw [EA.out, EB.out]
        go_wp2
        go_ret
        exact ⟨by simp, HB.out⟩
      · skip
        go_wp2
        go_region_held (fun w' => (w'.cell? ⟨w.heap.size, 0, none⟩ = some (.int .i64 c) ∧ w'.cell? ⟨w.heap.size, 1, none⟩ = some (.int .i64 l) ∧ w'.cell? ⟨w.heap.size, 2, none⟩ = some (.int .i64 k) ∧ w'.cell? ⟨w.heap.size, 3, none⟩ = some (.int .i64 p) ∧ w'.cell? ⟨w.heap.size, 4, none⟩ = some (.int .i64 s)) ∧ w'.cell? ⟨Q, 1, none⟩ = some (.int .i64 x1) ∧ w'.cell? ⟨Q2, 1, none⟩ = some (.int .i64 x1)) (first | exact HS.out | exact three_keep (by assumption) hb)
          (first
            | (go_at_call 15; refine (Line_ok H.out _).mono ?_; rintro e w2 ⟨rfl, hb⟩; replace HB := Lib.hid (below_then HB.out hb)))
        rename_i hH
        clear hH
        rw [EA.out, EB.out]
        go_wp2
        go_ret
        exact ⟨by simp, HB.out⟩
    · have e2' : x2 < y2 := by omega
      go_wp2
      go_region_held (fun w' => (w'.cell? ⟨w.heap.size, 0, none⟩ = some (.int .i64 c) ∧ w'.cell? ⟨w.heap.size, 1, none⟩ = some (.int .i64 l) ∧ w'.cell? ⟨w.heap.size, 2, none⟩ = some (.int .i64 k) ∧ w'.cell? ⟨w.heap.size, 3, none⟩ = some (.int .i64 p) ∧ w'.cell? ⟨w.heap.size, 4, none⟩ = some (.int .i64 s)) ∧ w'.cell? ⟨Q, 1, none⟩ = some (.int .i64 x1) ∧ w'.cell? ⟨Q2, 1, none⟩ = some (.int .i64 x1)) (first | exact HS.out | exact three_keep (by assumption) hb)
        (first
          | (go_at_call 15; refine (Line_ok H.out _).mono ?_; rintro e w2 ⟨rfl, hb⟩; replace HB := Lib.hid (below_then HB.out hb)))
      rename_i hH
      clear hH
      rw [EA.out, EB.out]
      go_wp2
      go_ret
      exact ⟨by simp, HB.out⟩
  · have e1' : x1 < y1 := by omega
    go_wp2
    go_region_held (fun w' => (w'.cell? ⟨w.heap.size, 0, none⟩ = some (.int .i64 c) ∧ w'.cell? ⟨w.heap.size, 1, none⟩ = some (.int .i64 l) ∧ w'.cell? ⟨w.heap.size, 2, none⟩ = some (.int .i64 k) ∧ w'.cell? ⟨w.heap.size, 3, none⟩ = some (.int .i64 p) ∧ w'.cell? ⟨w.heap.size, 4, none⟩ = some (.int .i64 s)) ∧ w'.cell? ⟨Q, 1, none⟩ = some (.int .i64 x1) ∧ w'.cell? ⟨Q2, 1, none⟩ = some (.int .i64 y1)) (first | exact HS.out | exact three_keep (by assumption) hb)
      (first
        | (go_at_call 15; refine (Line_ok H.out _).mono ?_; rintro e w2 ⟨rfl, hb⟩; replace HB := Lib.hid (below_then HB.out hb)))
    rename_i hH
    clear hH
    rw [EA.out, EB.out]
    go_wp2
    go_ret
    exact ⟨by simp, HB.out⟩
end

theorem walk (c l k p s a b : Int) (w : World) (_h0 : -9223372036854775808 ≤ a) (_h1 : a ≤ 9223372036854775807) (_h2 : -9223372036854775808 ≤ b) (_h3 : b ≤ 9223372036854775807) :
    Calls Try.prog 7 #[.agg #[.int .i64 c, .int .i64 l, .int .i64 k, .int .i64 p, .int .i64 s], .int .i64 a, .int .i64 b] w fun e w' => e = .returned (.bool true) ∧ Below w.heap.size w w' := by
  rcases Decidable.em (Geom.ok c l k p s) with h | h
  · have hs := Geom.sizes h
    rcases Decidable.em (0 ≤ a ∧ a < k * (p * (c * l * s))) with ⟨h0, h1⟩ | ha
    · rcases Decidable.em (0 ≤ b ∧ b < k * (p * (c * l * s))) with ⟨h2, h3⟩ | hb
      · rcases Decidable.em (b ≤ a) with hba | hba
        · exact early (of_in hs a h0 h1) (of_in hs b h2 h3) (Or.inr (Or.inr hba)) w
        · have na := Geom.number_of hs h0 h1
          have nb := Geom.number_of hs h2 h3
          have n1 := hs.n1
          have l0 := hs.l0
          have r0 := hs.r0
          refine later hs (of_in hs a h0 h1) (of_in hs b h2 h3) (by omega) ?_ ?_ ?_ ?_ ?_ w
          · rintro ⟨e0, e1, e2, e3⟩
            have h4 := na.2
            rw [e0, e1, e2, e3] at h4
            have h5 := nb.2
            omega
          · exact Int.ediv_le_ediv (by omega) (by omega)
          · intro e1
            refine Int.ediv_le_ediv (by omega) ?_
            have d1 := Int.mul_ediv_add_emod a (p * (c * l * s))
            have d2 := Int.mul_ediv_add_emod b (p * (c * l * s))
            rw [e1] at d1
            omega
          · rw [Int.tdiv_eq_ediv_of_nonneg h0]
            have h4 := na.1.2.2.1
            have h5 := na.1.2.2.2.1
            have := h.2.2.2.2.2.1
            exact kwrap_is (by omega) (by omega)
          · rw [Int.tdiv_eq_ediv_of_nonneg h2]
            have h4 := nb.1.2.2.1
            have h5 := nb.1.2.2.2.1
            have := h.2.2.2.2.2.1
            exact kwrap_is (by omega) (by omega)
      · exact early (of_in hs a h0 h1) (of_out hs b (by omega)) (Or.inr (Or.inl (by omega))) w
    · rcases Decidable.em (0 ≤ b ∧ b < k * (p * (c * l * s))) with ⟨h2, h3⟩ | hb
      · exact early (of_out hs a (by omega)) (of_in hs b h2 h3) (Or.inl (by omega)) w
      · exact early (of_out hs a (by omega)) (of_out hs b (by omega)) (Or.inl (by omega)) w
  · exact early (of_bad h a) (of_bad h b) (Or.inl (by omega)) w

theorem own : ownKnob Try.prog.godebug = none := by kernel_rfl
theorem laid : laidOutB Try.prog = true := by kernel_rfl

set_option maxRecDepth 100000 in
theorem lifted (os : Os) (started : os.Started) (H : Type) (enc : TypeId × Value → H) :
    ReturnsInHanded {} Try.checked os 7 .any (Rows.geomRisesSpec.pre6 enc Try.prog Try.f7 Rows.geomRisesRow.domain false) (Rows.geomRisesSpec.post enc Try.prog Try.f7 false true false false) := by
  refine returnsInHanded_of_change (C := Try.checked) own started (by kernel_rfl) Try.func7
    (ChangeSpec.witness6 (enc := enc) (C := Try.checked) false ⟨#[], #[.agg #[.int .i64 0, .int .i64 0, .int .i64 0, .int .i64 0, .int .i64 0], .int .i64 0, .int .i64 0], []⟩ 8 (by kernel_rfl) (by kernel_rfl) (by kernel_rfl) (by kernel_rfl)) ?_
  intro W base args ds gs before hval0 hW _ _
  have hval : ∀ (j : Nat) t v, Try.f7.params[j]? = some t → args[j]? = some v → Value.okWide Try.prog W .any base t v := hval0
  have hW' := hW
  obtain ⟨p, q, hA0, hV, rfl, hfz, hnd⟩ := hW
  have hA : DataW.TrodAll enc Try.prog W 0 (fun _ => true) true Try.f7.params.toList args.toList ds p := hA0
  rw [Try.params7] at hA hval
  obtain ⟨v0, v1, v2, d0, d1, d2, p0, p1, p2, rfl, rfl, rfl, h0, h1, h2⟩ := trodAll_three hA
  obtain ⟨c0, l0, k0, q0, s0, rfl⟩ := open_geo Try.underlying23 rfl (by kernel_rfl) (by kernel_rfl) (hval 0 23 v0 rfl rfl) h0
  obtain ⟨a1, rfl, rfl, rfl, wf1⟩ := open_int Try.underlying3 (hval 1 3 v1 rfl rfl) h1
  have hb1 : -9223372036854775808 ≤ a1 ∧ a1 ≤ 9223372036854775807 := by simpa [Lit.wf, IntKind.min, IntKind.max, IntKind.signed, IntKind.bits] using wf1
  obtain ⟨a2, rfl, rfl, rfl, wf2⟩ := open_int Try.underlying3 (hval 2 3 v2 rfl rfl) h2
  have hb2 : -9223372036854775808 ≤ a2 ∧ a2 ≤ 9223372036854775807 := by simpa [Lit.wf, IntKind.min, IntKind.max, IntKind.signed, IntKind.bits] using wf2
  refine (walk c0 l0 k0 q0 s0 a1 a2 W hb1.1 hb1.2 hb2.1 hb2.2).mono fun e W' ⟨he, hb⟩ => ?_
  subst he
  exact ⟨_, rfl, Law.post laid (by kernel_rfl) (by kernel_rfl) Try.underlying4 rfl hW' rfl hb⟩

theorem proved : Rows.GeomRisesSaid :=
  OpenClaim.holds_of_wide 7 Try.f7 rfl rfl rfl rfl rfl rfl rfl ⟨rfl, rfl, rfl, rfl, rfl⟩ rfl rfl rfl rfl rfl (by kernel_rfl) Try.func7 (by kernel_rfl)
    (of_decide_eq_true (by kernel_rfl)) (by unfold Func.isWrapper; first | (rw [if_pos (by decide +kernel)]; kernel_rfl) | (rw [if_neg (by decide +kernel)]; exact ⟨rfl, rfl⟩))
    (fun os started H enc _ => lifted os started H enc)

end Go.Proofs.Ytaimecbfplcmhaa.geomRises
