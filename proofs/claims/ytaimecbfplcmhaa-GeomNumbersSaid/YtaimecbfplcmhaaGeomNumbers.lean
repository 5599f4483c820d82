/-
  GeomNumbers: for any geometry and place the law answers true. No condition.
-/
import Derived.Test.YtaimecbfplcmhaaGeomKit
import Derived.Test.YtaimecbfplcmhaaGeomSame
namespace Go.Proofs.Ytaimecbfplcmhaa.geomNumbers
open Go.ChangeShapes Go.WideShapes Go.ChangeAt Go.RowKit
set_option maxRecDepth 4000

set_option maxHeartbeats 1000000 in
theorem walk (c l k p s u b g t : Int) (w : World) :
    Calls Try.prog 5 #[.agg #[.int .i64 c, .int .i64 l, .int .i64 k, .int .i64 p, .int .i64 s], .agg #[.int .i64 u, .int .i64 b, .int .i64 g, .int .i64 t]] w fun e w' => e = .returned (.bool true) ∧ Below w.heap.size w w' := by
  obtain ⟨x0, e0, hof, hro⟩ := num_same c l k p s u b g t
  obtain ⟨x1, e1, hch, hrc⟩ := chan_same c l k p s u
  have HN := Lib.hid hof
  have HRN := Lib.hid hro
  have HC := Lib.hid hch
  have HRC := Lib.hid hrc
  clear hof hro hch hrc
  have hb0 := ((Below.refl w.heap.size w).alloc (Nat.le_refl _) (.cells #[.int .i64 c, .int .i64 l, .int .i64 k, .int .i64 p, .int .i64 s] 23))
  have HB := Lib.hid (hb0.alloc hb0.size (.cells #[.int .i64 u, .int .i64 b, .int .i64 g, .int .i64 t] 28))
  have HG := Lib.hid (And.intro (geo_keep (geo_new w 23 c l k p s) ((Below.refl _ _).alloc (Nat.le_refl _) (.cells #[.int .i64 u, .int .i64 b, .int .i64 g, .int .i64 t] 28))) (pla_new (w.alloc (.cells #[.int .i64 c, .int .i64 l, .int .i64 k, .int .i64 p, .int .i64 s] 23)) (w.heap.size + 1) (by simp) 28 u b g t))
  clear hb0
  go_enter Try.func5, Try.ntmps5
  go_wp2_with fail
  refine (awake_any _).mono ?_
  rintro e w1 ⟨rfl, hb⟩
  replace HB := Lib.hid (below_then HB.out hb)
  replace HG := Lib.hid (both_keep HG.out hb)
  clear hb
  obtain ⟨⟨G0, G1, G2, G3, G4⟩, P0, P1, P2, P3⟩ := HG.out
  go_wp2_with fail
  clear G0 G1 G2 G3 G4 P0 P1 P2 P3
  refine (HN.out _).mono ?_
  rintro e w2 ⟨rfl, hb⟩
  replace HB := Lib.hid (below_then HB.out hb)
  replace HG := Lib.hid (both_keep HG.out hb)
  clear hb
  obtain ⟨⟨G0, G1, G2, G3, G4⟩, P0, P1, P2, P3⟩ := HG.out
  go_wp2_with fail
  clear G0 G1 G2 G3 G4 P0 P1 P2 P3
  refine (HRN.out _).mono ?_
  rintro e w3 ⟨rfl, hb⟩
  replace HB := Lib.hid (below_then HB.out hb)
  replace HG := Lib.hid (both_keep HG.out hb)
  clear hb
  obtain ⟨⟨G0, G1, G2, G3, G4⟩, P0, P1, P2, P3⟩ := HG.out
  go_wp2_with fail
  clear G0 G1 G2 G3 G4 P0 P1 P2 P3
  refine (HC.out _).mono ?_
  rintro e w4 ⟨rfl, hb⟩
  replace HB := Lib.hid (below_then HB.out hb)
  replace HG := Lib.hid (both_keep HG.out hb)
  clear hb
  obtain ⟨⟨G0, G1, G2, G3, G4⟩, P0, P1, P2, P3⟩ := HG.out
  go_wp2_with fail
  clear G0 G1 G2 G3 G4 P0 P1 P2 P3
  refine (HRC.out _).mono ?_
  rintro e w5 ⟨rfl, hb⟩
  replace HB := Lib.hid (below_then HB.out hb)
  replace HG := Lib.hid (both_keep HG.out hb)
  clear hb
  go_wp2
  go_ret
  exact ⟨rfl, HB.out⟩

theorem own : ownKnob Try.prog.godebug = none := by kernel_rfl
theorem laid : laidOutB Try.prog = true := by kernel_rfl

set_option maxRecDepth 100000 in
theorem lifted (os : Os) (started : os.Started) (H : Type) (enc : TypeId × Value → H) :
    ReturnsInHanded {} Try.checked os 5 .any (Rows.geomNumbersSpec.pre6 enc Try.prog Try.f5 Rows.geomNumbersRow.domain false) (Rows.geomNumbersSpec.post enc Try.prog Try.f5 false true false false) := by
  refine returnsInHanded_of_change (C := Try.checked) own started (by kernel_rfl) Try.func5
    (ChangeSpec.witness6 (enc := enc) (C := Try.checked) false ⟨#[], #[.agg #[.int .i64 0, .int .i64 0, .int .i64 0, .int .i64 0, .int .i64 0], .agg #[.int .i64 0, .int .i64 0, .int .i64 0, .int .i64 0]], []⟩ 8 (by kernel_rfl) (by kernel_rfl) (by kernel_rfl) (by kernel_rfl)) ?_
  intro W base args ds gs before hval0 hW _ _
  have hval : ∀ (j : Nat) t v, Try.f5.params[j]? = some t → args[j]? = some v → Value.okWide Try.prog W .any base t v := hval0
  have hW' := hW
  obtain ⟨p, q, hA0, hV, rfl, hfz, hnd⟩ := hW
  have hA : DataW.TrodAll enc Try.prog W 0 (fun _ => true) true Try.f5.params.toList args.toList ds p := hA0
  rw [Try.params5] at hA hval
  obtain ⟨v0, v1, d0, d1, p0, p1, rfl, rfl, rfl, h0, h1⟩ := trodAll_two hA
  obtain ⟨c0, l0, k0, q0, s0, rfl⟩ := open_geo Try.underlying23 rfl (by kernel_rfl) (by kernel_rfl) (hval 0 23 v0 rfl rfl) h0
  obtain ⟨u1, b1, g1, t1, rfl⟩ := open_place Try.underlying28 rfl (by kernel_rfl) (by kernel_rfl) (hval 1 28 v1 rfl rfl) h1
  refine (walk c0 l0 k0 q0 s0 u1 b1 g1 t1 W ).mono fun e W' ⟨he, hb⟩ => ?_
  subst he
  exact ⟨_, rfl, Law.post laid (by kernel_rfl) (by kernel_rfl) Try.underlying4 rfl hW' rfl hb⟩

theorem proved : Rows.GeomNumbersSaid :=
  OpenClaim.holds_of_wide 5 Try.f5 rfl rfl rfl rfl rfl rfl rfl ⟨rfl, rfl, rfl, rfl, rfl⟩ rfl rfl rfl rfl rfl (by kernel_rfl) Try.func5 (by kernel_rfl)
    (of_decide_eq_true (by kernel_rfl)) (by unfold Func.isWrapper; first | (rw [if_pos (by decide +kernel)]; kernel_rfl) | (rw [if_neg (by decide +kernel)]; exact ⟨rfl, rfl⟩))
    (fun os started H enc _ => lifted os started H enc)

end Go.Proofs.Ytaimecbfplcmhaa.geomNumbers
