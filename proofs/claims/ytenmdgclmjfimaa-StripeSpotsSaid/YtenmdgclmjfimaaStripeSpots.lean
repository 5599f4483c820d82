/-
  StripeSpots holds: the unit and page of any number, and its address, for every geometry, every line and every number. No condition.
-/
import Derived.Test.YtenmdgclmjfimaaStripeKit
import Derived.OpenShut
namespace Go.Proofs.Ytenmdgclmjfimaa.stripeSpots
open Go.RowKit Go.ChangeShapes Go.WideShapes Stripe StripePkg
set_option maxRecDepth 4000

theorem spot_same (gc gl gk gp gs x : Int) : ∃ u g er : Int, (∀ w, Calls Try.prog 12 #[.agg #[.int .i64 gc, .int .i64 gl, .int .i64 gk, .int .i64 gp, .int .i64 gs], .int .i64 x] w fun e w' => e = .returned (.tuple #[.int .i64 u, .int .i64 g, .int .i64 er]) ∧ Below w.heap.size w w') ∧ (∀ w, Calls Try.prog 13 #[.agg #[.int .i64 gc, .int .i64 gl, .int .i64 gk, .int .i64 gp, .int .i64 gs], .int .i64 x] w fun e w' => e = .returned (.tuple #[.int .i64 u, .int .i64 g, .int .i64 er]) ∧ Below w.heap.size w w') := by
  by_cases hok : Geom.ok gc gl gk gp gs
  · have h := Geom.sizes hok
    by_cases hx : x < 0 ∨ gc * gl * gp ≤ x
    · exact ⟨_, _, _, fun w => StripePkg.Spot_out h x hx w, fun w => StripeRef.Spot_out h x hx w⟩
    · exact ⟨_, _, _, fun w => StripePkg.Spot_in h x (by omega) (by omega) w, fun w => StripeRef.Spot_in h x (by omega) (by omega) w⟩
  · exact ⟨_, _, _, fun w => StripePkg.Spot_bad hok x w, fun w => StripeRef.Spot_bad hok x w⟩

theorem first_same (gc gl gk gp gs line x : Int) : ∃ y er : Int, (∀ w, Calls Try.prog 14 #[.agg #[.int .i64 gc, .int .i64 gl, .int .i64 gk, .int .i64 gp, .int .i64 gs], .int .i64 line, .int .i64 x] w fun e w' => e = .returned (.tuple #[.int .i64 y, .int .i64 er]) ∧ Below w.heap.size w w') ∧ (∀ w, Calls Try.prog 15 #[.agg #[.int .i64 gc, .int .i64 gl, .int .i64 gk, .int .i64 gp, .int .i64 gs], .int .i64 line, .int .i64 x] w fun e w' => e = .returned (.tuple #[.int .i64 y, .int .i64 er]) ∧ Below w.heap.size w w') := by
  by_cases hok : Geom.ok gc gl gk gp gs
  · have h := Geom.sizes hok
    by_cases hx : x < 0 ∨ gc * gl * gp ≤ x
    · exact ⟨_, _, fun w => StripePkg.First_out h line x hx w, fun w => StripeRef.First_out h line x (by omega) w⟩
    · by_cases hl : line < 0 ∨ gk ≤ line
      · exact ⟨_, _, fun w => StripePkg.First_line h line x hl w, fun w => StripeRef.First_out h line x (by omega) w⟩
      · exact ⟨_, _, fun w => StripePkg.First_in h line x _ (by omega) (by omega) (by omega) (by omega) rfl w, fun w => StripeRef.First_in h line x _ (by omega) (by omega) (by omega) (by omega) rfl w⟩
  · exact ⟨_, _, fun w => StripePkg.First_bad hok line x w, fun w => StripeRef.First_bad hok line x w⟩

theorem walk (gc gl gk gp gs : Int) (line x : Int) (w : World) (_hl0 : -9223372036854775808 ≤ line) (_hl1 : line ≤ 9223372036854775807) (_hx0 : -9223372036854775808 ≤ x) (_hx1 : x ≤ 9223372036854775807) :
    Calls Try.prog 4 #[.agg #[.int .i64 gc, .int .i64 gl, .int .i64 gk, .int .i64 gp, .int .i64 gs], .int .i64 line, .int .i64 x] w fun e w' => e = .returned (.bool true) ∧ Below w.heap.size w w' := by
  have HB := Lib.hid ((Below.refl w.heap.size w).alloc (Nat.le_refl _) (.cells #[.int .i64 gc, .int .i64 gl, .int .i64 gk, .int .i64 gp, .int .i64 gs] 23))
  have HG := Lib.hid (geo_new w 23 gc gl gk gp gs)
  obtain ⟨u, g, er, hs1, hs2⟩ := spot_same gc gl gk gp gs x
  obtain ⟨y, fr, hf1, hf2⟩ := first_same gc gl gk gp gs line x
  have HS1 := Lib.hid hs1
  have HS2 := Lib.hid hs2
  have HF1 := Lib.hid hf1
  have HF2 := Lib.hid hf2
  clear hs1 hs2 hf1 hf2
  go_enter Try.func4, Try.ntmps4
  go_wp2_with fail
  refine (awake_any _).mono ?_
  rintro e w1 ⟨rfl, hb⟩
  replace HB := Lib.hid (below_then HB.out hb)
  replace HG := Lib.hid (geo_keep HG.out hb)
  obtain ⟨k0, k1, k2, k3, k4⟩ := HG.out
  clear hb
  go_wp2_with fail
  refine (HS1.out _).mono ?_
  rintro e w2 ⟨rfl, hb⟩
  replace HB := Lib.hid (below_then HB.out hb)
  replace HG := Lib.hid (geo_keep HG.out hb)
  clear hb k0 k1 k2 k3 k4
  obtain ⟨k0, k1, k2, k3, k4⟩ := HG.out
  go_wp2_with fail
  refine (HS2.out _).mono ?_
  rintro e w3 ⟨rfl, hb⟩
  replace HB := Lib.hid (below_then HB.out hb)
  replace HG := Lib.hid (geo_keep HG.out hb)
  clear hb k0 k1 k2 k3 k4
  obtain ⟨k0, k1, k2, k3, k4⟩ := HG.out
  go_wp2_with fail
  refine (HF1.out _).mono ?_
  rintro e w4 ⟨rfl, hb⟩
  replace HB := Lib.hid (below_then HB.out hb)
  replace HG := Lib.hid (geo_keep HG.out hb)
  clear hb k0 k1 k2 k3 k4
  obtain ⟨k0, k1, k2, k3, k4⟩ := HG.out
  go_wp2_with fail
  refine (HF2.out _).mono ?_
  rintro e w5 ⟨rfl, hb⟩
  replace HB := Lib.hid (below_then HB.out hb)
  replace HG := Lib.hid (geo_keep HG.out hb)
  clear hb k0 k1 k2 k3 k4
  obtain ⟨k0, k1, k2, k3, k4⟩ := HG.out
  go_wp2
  go_ret
  exact ⟨rfl, HB.out⟩


theorem own : ownKnob Try.prog.godebug = none := by kernel_rfl
theorem laid : laidOutB Try.prog = true := by kernel_rfl

set_option maxRecDepth 100000 in
theorem lifted (os : Os) (started : os.Started) (H : Type) (enc : TypeId × Value → H) :
    ReturnsInHanded {} Try.checked os 4 .any (Rows.stripeSpotsSpec.pre6 enc Try.prog Try.f4 Rows.stripeSpotsRow.domain false) (Rows.stripeSpotsSpec.post enc Try.prog Try.f4 false true false false) := by
  refine returnsInHanded_of_change (C := Try.checked) own started (by kernel_rfl) Try.func4
    (ChangeSpec.witness6 (enc := enc) (C := Try.checked) false ⟨#[], #[.agg #[.int .i64 0, .int .i64 0, .int .i64 0, .int .i64 0, .int .i64 0], .int .i64 0, .int .i64 0], []⟩ 8 (by kernel_rfl) (by kernel_rfl) (by kernel_rfl) (by kernel_rfl)) ?_
  intro W base args ds gs before hval0 hW _ _
  have hval : ∀ (j : Nat) t v, Try.f4.params[j]? = some t → args[j]? = some v → Value.okWide Try.prog W .any base t v := hval0
  have hW' := hW
  obtain ⟨p, q, hA0, hV, rfl, hfz, hnd⟩ := hW
  have hA : DataW.TrodAll enc Try.prog W 0 (fun _ => true) true Try.f4.params.toList args.toList ds p := hA0
  rw [Try.params4] at hA hval
  obtain ⟨v0, v1, v2, d0, d1, d2, p0, p1, p2, rfl, rfl, rfl, h0, h1, h2⟩ := trodAll_three hA
  obtain ⟨c0, l0, k0, q0, s0, rfl⟩ := open_geo Try.underlying23 rfl (by kernel_rfl) (by kernel_rfl) (hval 0 23 v0 rfl rfl) h0
  obtain ⟨a1, rfl, rfl, rfl, wf1⟩ := open_int Try.underlying3 (hval 1 3 v1 rfl rfl) h1
  have hb1 : -9223372036854775808 ≤ a1 ∧ a1 ≤ 9223372036854775807 := by simpa [Lit.wf, IntKind.min, IntKind.max, IntKind.signed, IntKind.bits] using wf1
  obtain ⟨a2, rfl, rfl, rfl, wf2⟩ := open_int Try.underlying3 (hval 2 3 v2 rfl rfl) h2
  have hb2 : -9223372036854775808 ≤ a2 ∧ a2 ≤ 9223372036854775807 := by simpa [Lit.wf, IntKind.min, IntKind.max, IntKind.signed, IntKind.bits] using wf2
  refine (walk c0 l0 k0 q0 s0 a1 a2 W hb1.1 hb1.2 hb2.1 hb2.2).mono fun e W' ⟨he, hb⟩ => ?_
  subst he
  exact ⟨_, rfl, Law.post laid (by kernel_rfl) (by kernel_rfl) Try.underlying4 rfl hW' rfl hb⟩

theorem proved : Rows.StripeSpotsSaid :=
  OpenClaim.holds_of_wide 4 Try.f4 rfl rfl rfl rfl rfl rfl rfl ⟨rfl, rfl, rfl, rfl, rfl⟩ rfl rfl rfl rfl rfl (by kernel_rfl) Try.func4 (by kernel_rfl)
    (of_decide_eq_true (by kernel_rfl)) (by unfold Func.isWrapper; first | (rw [if_pos (by decide +kernel)]; kernel_rfl) | (rw [if_neg (by decide +kernel)]; exact ⟨rfl, rfl⟩))
    (fun os started H enc _ => lifted os started H enc)

end Go.Proofs.Ytenmdgclmjfimaa.stripeSpots
