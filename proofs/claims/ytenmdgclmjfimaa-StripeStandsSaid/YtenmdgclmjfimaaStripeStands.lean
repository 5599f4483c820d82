/-
  StripeStands holds: if no unit is dead the pages' addresses stand one behind the other, for every geometry, every line and every number. No condition.
-/
import Derived.Test.YtenmdgclmjfimaaStripeKit
import Derived.OpenShut
namespace Go.Proofs.Ytenmdgclmjfimaa.stripeStands
open Go.RowKit Go.ChangeShapes Go.WideShapes Stripe StripePkg
set_option maxRecDepth 4000

theorem live_nil (U i : Int) : live [] U i = true := by simp [live]

theorem nil_is {U M x r : Int} (h0 : 0 ≤ x) (h1 : x < M) (h : Nxt (live [] U) (max x 0) M r) : r = x :=
  h.one (Or.inr ⟨by omega, h1, live_nil _ _, fun i g1 g2 => by omega⟩)

theorem walk (gc gl gk gp gs : Int) (line x : Int) (w : World) (_hl0 : -9223372036854775808 ≤ line) (_hl1 : line ≤ 9223372036854775807) (_hx0 : -9223372036854775808 ≤ x) (_hx1 : x ≤ 9223372036854775807) :
    Calls Try.prog 8 #[.agg #[.int .i64 gc, .int .i64 gl, .int .i64 gk, .int .i64 gp, .int .i64 gs], .int .i64 line, .int .i64 x] w fun e w' => e = .returned (.bool true) ∧ Below w.heap.size w w' := by
  have HB := Lib.hid ((Below.refl w.heap.size w).alloc (Nat.le_refl _) (.cells #[.int .i64 gc, .int .i64 gl, .int .i64 gk, .int .i64 gp, .int .i64 gs] 23))
  have HG := Lib.hid (geo_new w 23 gc gl gk gp gs)
  by_cases hx : x < 0 ∨ 100000 < x
  · have hd : decide (x < 0) = true ∨ (decide (x < 0) = false ∧ decide (100000 < x) = true) := by
      by_cases h : x < 0
      · exact Or.inl (by simpa using h)
      · exact Or.inr ⟨by simp; omega, by simp; omega⟩
    clear hx
    rcases hd with hd | ⟨hd, hd2⟩
    all_goals
      go_enter Try.func8, Try.ntmps8
      go_wp2_with fail
      refine (awake_any _).mono ?_
      rintro e w1 ⟨rfl, hb⟩
      replace HB := Lib.hid (below_then HB.out hb)
      clear hb
      go_wp2
      go_ret
      exact ⟨rfl, HB.out⟩
  have hd : decide (x < 0) = false := by simp; omega
  have hd2 : decide (100000 < x) = false := by simp; omega
  have hxb : 0 ≤ x ∧ x ≤ 100000 := by omega
  have hw1 : wrap64 (x + 1) = x + 1 := wrap_is (by omega) (by omega)
  clear hx
  obtain ⟨a, e, b, f, hf1, hf2, hor⟩ : ∃ a e b f : Int, (∀ w, Calls Try.prog 14 #[.agg #[.int .i64 gc, .int .i64 gl, .int .i64 gk, .int .i64 gp, .int .i64 gs], .int .i64 line, .int .i64 x] w fun en w' => en = .returned (.tuple #[.int .i64 a, .int .i64 e]) ∧ Below w.heap.size w w') ∧ (∀ w, Calls Try.prog 14 #[.agg #[.int .i64 gc, .int .i64 gl, .int .i64 gk, .int .i64 gp, .int .i64 gs], .int .i64 line, .int .i64 (x + 1)] w fun en w' => en = .returned (.tuple #[.int .i64 b, .int .i64 f]) ∧ Below w.heap.size w w') ∧
      (¬ f = 0 ∨ (e = 0 ∧ f = 0 ∧ Geom.ok gc gl gk gp gs ∧ 0 ≤ line ∧ line < gk ∧ x + 1 < gc * gl * gp ∧ a = line * (gp * (gc * gl * gs)) + x * gs ∧ b = a + gs)) := by
    by_cases hok : Geom.ok gc gl gk gp gs
    rotate_left
    · exact ⟨_, _, _, _, fun w => First_bad hok line x w, fun w => First_bad hok line (x + 1) w, Or.inl (by omega)⟩
    have h := Geom.sizes hok
    by_cases hl : line < 0 ∨ gk ≤ line
    · exact ⟨_, _, _, _, fun w => First_line h line x hl w, fun w => First_line h line (x + 1) hl w, Or.inl (by omega)⟩
    by_cases h1 : gc * gl * gp ≤ x
    · exact ⟨_, _, _, _, fun w => First_out h line x (Or.inr h1) w, fun w => First_out h line (x + 1) (Or.inr (by omega)) w, Or.inl (by omega)⟩
    by_cases h2 : gc * gl * gp ≤ x + 1
    · exact ⟨_, _, _, _, fun w => First_in h line x _ (by omega) (by omega) (by omega) (by omega) rfl w, fun w => First_out h line (x + 1) (Or.inr h2) w, Or.inl (by omega)⟩
    · exact ⟨_, _, _, _, fun w => First_in h line x _ (by omega) (by omega) (by omega) (by omega) rfl w, fun w => First_in h line (x + 1) _ (by omega) (by omega) (by omega) (by omega) rfl w, Or.inr ⟨rfl, rfl, hok, by omega, by omega, by omega, rfl, by rw [Int.add_mul, Int.one_mul]; omega⟩⟩
  have HF1 := Lib.hid hf1
  have HF2 := Lib.hid hf2
  clear hf1 hf2
  rcases hor with hne | ⟨rfl, rfl, hok, hl0, hl1, hxM, ha, hb0⟩
  · by_cases he : e = 0
    · subst he
      go_enter Try.func8, Try.ntmps8
      go_wp2_with fail
      refine (awake_any _).mono ?_
      rintro e w1 ⟨rfl, hb⟩
      replace HB := Lib.hid (below_then HB.out hb)
      replace HG := Lib.hid (geo_keep HG.out hb)
      obtain ⟨k0, k1, k2, k3, k4⟩ := HG.out
      clear hb
      go_wp2_with fail
      refine (HF1.out _).mono ?_
      rintro e w2 ⟨rfl, hb⟩
      replace HB := Lib.hid (below_then HB.out hb)
      replace HG := Lib.hid (geo_keep HG.out hb)
      clear hb k0 k1 k2 k3 k4
      obtain ⟨k0, k1, k2, k3, k4⟩ := HG.out
      go_wp2_with fail
      refine (HF2.out _).mono ?_
      rintro e w3 ⟨rfl, hb⟩
      replace HB := Lib.hid (below_then HB.out hb)
      clear hb k0 k1 k2 k3 k4
      go_wp2
      go_ret
      exact ⟨rfl, HB.out⟩
    · go_enter Try.func8, Try.ntmps8
      go_wp2_with fail
      refine (awake_any _).mono ?_
      rintro e w1 ⟨rfl, hb⟩
      replace HB := Lib.hid (below_then HB.out hb)
      replace HG := Lib.hid (geo_keep HG.out hb)
      obtain ⟨k0, k1, k2, k3, k4⟩ := HG.out
      clear hb
      go_wp2_with fail
      refine (HF1.out _).mono ?_
      rintro e w2 ⟨rfl, hb⟩
      replace HB := Lib.hid (below_then HB.out hb)
      replace HG := Lib.hid (geo_keep HG.out hb)
      clear hb k0 k1 k2 k3 k4
      obtain ⟨k0, k1, k2, k3, k4⟩ := HG.out
      go_wp2_with fail
      refine (HF2.out _).mono ?_
      rintro e w3 ⟨rfl, hb⟩
      replace HB := Lib.hid (below_then HB.out hb)
      clear hb k0 k1 k2 k3 k4
      go_wp2
      go_ret
      exact ⟨by simp [hne], HB.out⟩
  have h := Geom.sizes hok
  have hsp := Stripe.split (gc * gl) x h.u0 hxb.1
  have hrw := Stripe.row_bd (p := gp) h.u0 hxb.1 (by omega)
  have hp : Geom.there (gc * gl) gk gp gs (x % (gc * gl)) line (x / (gc * gl)) 0 := ⟨hsp.2.1, hsp.2.2.1, hl0, hl1, hsp.2.2.2, hrw, by omega, h.may.2.2.2.2.2.2.2.2.1⟩
  have hon := Geom.of_number h hp (a := a) (by rw [ha]; exact first_adr h hsp.1)
  have hof := fun w => of_in h a hon.1 hon.2.1 w
  rw [hon.2.2.1, hon.2.2.2.1, hon.2.2.2.2.1, hon.2.2.2.2.2] at hof
  have HO := Lib.hid hof
  have HS := Lib.hid (fun w => Spot_in h x hxb.1 (by omega) w)
  have HN : Hid (∀ wx, Calls Try.prog 10 #[.agg #[.int .i64 gc, .int .i64 gl, .int .i64 gk, .int .i64 gp, .int .i64 gs], .slice none 0 0, .int .i64 x] wx fun e w' => e = .returned (.int .i64 x) ∧ Below wx.heap.size wx w') :=
    Lib.hid fun wx => (Next_ok h none 0 0 0 [] x wx (Nat.zero_le _) ⟨rfl, fun i hi => absurd hi (by simp)⟩ (Nat.zero_le _)).mono fun e w' ⟨r, h1, h2, h3⟩ => ⟨by rw [h1, nil_is hxb.1 (by omega) h2], h3⟩
  have hab : 0 ≤ a ∧ a ≤ 65536 := ⟨hon.1, by have := hon.2.1; have := h.n1; omega⟩
  have hsb := h.may.2.2.2.2.2.2.2.2
  have hw2 : IntKind.i64.wrap (a + gs) = b := by rw [hb0]; exact kwrap_is (by omega) (by omega)
  have hw3 : wrap64 (a + gs) = b := by rw [hb0]; exact wrap_is (by omega) (by omega)
  generalize x % (gc * gl) = u at HO HS
  generalize x / (gc * gl) = q at HO HS
  clear h hsp hrw hp hon hof ha hok hb0
  go_enter Try.func8, Try.ntmps8
  go_wp2_with fail
  refine (awake_any _).mono ?_
  rintro e w1 ⟨rfl, hb⟩
  replace HB := Lib.hid (below_then HB.out hb)
  replace HG := Lib.hid (geo_keep HG.out hb)
  obtain ⟨k0, k1, k2, k3, k4⟩ := HG.out
  clear hb
  go_wp2_with fail
  refine (HF1.out _).mono ?_
  rintro e w2 ⟨rfl, hb⟩
  replace HB := Lib.hid (below_then HB.out hb)
  replace HG := Lib.hid (geo_keep HG.out hb)
  clear hb k0 k1 k2 k3 k4
  obtain ⟨k0, k1, k2, k3, k4⟩ := HG.out
  go_wp2_with fail
  refine (HF2.out _).mono ?_
  rintro e w3 ⟨rfl, hb⟩
  replace HB := Lib.hid (below_then HB.out hb)
  replace HG := Lib.hid (geo_keep HG.out hb)
  clear hb k0 k1 k2 k3 k4
  obtain ⟨k0, k1, k2, k3, k4⟩ := HG.out
  go_wp2_with fail
  refine (HO.out _).mono ?_
  rintro e w4 ⟨rfl, hb⟩
  replace HB := Lib.hid (below_then HB.out hb)
  replace HG := Lib.hid (geo_keep HG.out hb)
  clear hb k0 k1 k2 k3 k4
  have hbx : Below w4.heap.size w4 (w4.alloc (.cells #[.int .i64 u, .int .i64 line, .int .i64 q, .int .i64 0] 41)) := (Below.refl _ _).alloc (Nat.le_refl _) _
  have hpl := pla_new w4 w4.heap.size rfl 41 u line q 0
  replace HG := Lib.hid (geo_keep HG.out hbx)
  replace HB := Lib.hid (below_then HB.out hbx)
  have HPL := Lib.hid hpl
  obtain ⟨k0, k1, k2, k3, k4⟩ := HG.out
  clear hbx hpl
  go_wp2_with fail
  refine (HS.out _).mono ?_
  rintro e w5 ⟨rfl, hb⟩
  replace HB := Lib.hid (below_then HB.out hb)
  replace HG := Lib.hid (geo_keep HG.out hb)
  replace HPL := Lib.hid (pla_keep HPL.out hb)
  clear hb k0 k1 k2 k3 k4
  obtain ⟨k0, k1, k2, k3, k4⟩ := HG.out
  obtain ⟨p0, p1, p2, p3⟩ := HPL.out
  generalize w4.heap.size = bp at HPL p0 p1 p2 p3 ⊢
  go_wp2_with fail
  refine (HN.out _).mono ?_
  rintro e w6 ⟨rfl, hb⟩
  replace HB := Lib.hid (below_then HB.out hb)
  clear hb k0 k1 k2 k3 k4 p0 p1 p2 p3
  go_wp2
  go_ret
  exact ⟨rfl, HB.out⟩

theorem own : ownKnob Try.prog.godebug = none := by kernel_rfl
theorem laid : laidOutB Try.prog = true := by kernel_rfl

set_option maxRecDepth 100000 in
theorem lifted (os : Os) (started : os.Started) (H : Type) (enc : TypeId × Value → H) :
    ReturnsInHanded {} Try.checked os 8 .any (Rows.stripeStandsSpec.pre6 enc Try.prog Try.f8 Rows.stripeStandsRow.domain false) (Rows.stripeStandsSpec.post enc Try.prog Try.f8 false true false false) := by
  refine returnsInHanded_of_change (C := Try.checked) own started (by kernel_rfl) Try.func8
    (ChangeSpec.witness6 (enc := enc) (C := Try.checked) false ⟨#[], #[.agg #[.int .i64 0, .int .i64 0, .int .i64 0, .int .i64 0, .int .i64 0], .int .i64 0, .int .i64 0], []⟩ 8 (by kernel_rfl) (by kernel_rfl) (by kernel_rfl) (by kernel_rfl)) ?_
  intro W base args ds gs before hval0 hW _ _
  have hval : ∀ (j : Nat) t v, Try.f8.params[j]? = some t → args[j]? = some v → Value.okWide Try.prog W .any base t v := hval0
  have hW' := hW
  obtain ⟨p, q, hA0, hV, rfl, hfz, hnd⟩ := hW
  have hA : DataW.TrodAll enc Try.prog W 0 (fun _ => true) true Try.f8.params.toList args.toList ds p := hA0
  rw [Try.params8] at hA hval
  obtain ⟨v0, v1, v2, d0, d1, d2, p0, p1, p2, rfl, rfl, rfl, h0, h1, h2⟩ := trodAll_three hA
  obtain ⟨c0, l0, k0, q0, s0, rfl⟩ := open_geo Try.underlying23 rfl (by kernel_rfl) (by kernel_rfl) (hval 0 23 v0 rfl rfl) h0
  obtain ⟨a1, rfl, rfl, rfl, wf1⟩ := open_int Try.underlying3 (hval 1 3 v1 rfl rfl) h1
  have hb1 : -9223372036854775808 ≤ a1 ∧ a1 ≤ 9223372036854775807 := by simpa [Lit.wf, IntKind.min, IntKind.max, IntKind.signed, IntKind.bits] using wf1
  obtain ⟨a2, rfl, rfl, rfl, wf2⟩ := open_int Try.underlying3 (hval 2 3 v2 rfl rfl) h2
  have hb2 : -9223372036854775808 ≤ a2 ∧ a2 ≤ 9223372036854775807 := by simpa [Lit.wf, IntKind.min, IntKind.max, IntKind.signed, IntKind.bits] using wf2
  refine (walk c0 l0 k0 q0 s0 a1 a2 W hb1.1 hb1.2 hb2.1 hb2.2).mono fun e W' ⟨he, hb⟩ => ?_
  subst he
  exact ⟨_, rfl, Law.post laid (by kernel_rfl) (by kernel_rfl) Try.underlying4 rfl hW' rfl hb⟩

theorem proved : Rows.StripeStandsSaid :=
  OpenClaim.holds_of_wide 8 Try.f8 rfl rfl rfl rfl rfl rfl rfl ⟨rfl, rfl, rfl, rfl, rfl⟩ rfl rfl rfl rfl rfl (by kernel_rfl) Try.func8 (by kernel_rfl)
    (of_decide_eq_true (by kernel_rfl)) (by unfold Func.isWrapper; first | (rw [if_pos (by decide +kernel)]; kernel_rfl) | (rw [if_neg (by decide +kernel)]; exact ⟨rfl, rfl⟩))
    (fun os started H enc _ => lifted os started H enc)

end Go.Proofs.Ytenmdgclmjfimaa.stripeStands
