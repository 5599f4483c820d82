/-
  StripeNext holds: the first page from any number on whose unit is not dead, for every geometry, every list and every number. No condition.
-/
import Derived.Test.YtenmdgclmjfimaaStripeKit
import Derived.OpenShut
namespace Go.Proofs.Ytenmdgclmjfimaa.stripeNext
open Go.RowKit Go.ChangeShapes Go.WideShapes Stripe StripePkg
set_option maxRecDepth 4000

set_option maxHeartbeats 1600000 in
theorem walk (gc gl gk gp gs : Int) (A : Option Addr) (n c : Nat) (zs : List Int) (x : Int) (w : World) (hnc : n ≤ c) (hcm : c ≤ maxLen) (hr : Nums w w.heap.size A n zs) (_hx0 : -9223372036854775808 ≤ x) (_hx1 : x ≤ 9223372036854775807) :
    Calls Try.prog 3 #[.agg #[.int .i64 gc, .int .i64 gl, .int .i64 gk, .int .i64 gp, .int .i64 gs], .slice A n c, .int .i64 x] w fun e w' => e = .returned (.bool true) ∧ Below w.heap.size w w' := by
  have HB := Lib.hid ((Below.refl w.heap.size w).alloc (Nat.le_refl _) (.cells #[.int .i64 gc, .int .i64 gl, .int .i64 gk, .int .i64 gp, .int .i64 gs] 23))
  have HG := Lib.hid (geo_new w 23 gc gl gk gp gs)
  have HZ := Lib.hid hr
  have hn : n ≤ maxLen := Nat.le_trans hnc hcm
  have HN := Lib.hid hn
  have hnm : n ≤ 9223372036854775807 := hn
  clear hr hnc hcm hn
  by_cases hbig : 100 < n
  · have hd : decide ((100 : Int) < (n : Int)) = true := by simp; omega
    clear hbig
    go_enter Try.func3, Try.ntmps3
    go_wp2_with fail
    refine (awake_any _).mono ?_
    rintro e w1 ⟨rfl, hb⟩
    replace HB := Lib.hid (below_then HB.out hb)
    replace HG := Lib.hid (geo_keep HG.out hb)
    obtain ⟨k0, k1, k2, k3, k4⟩ := HG.out
    clear hb
    clear k0 k1 k2 k3 k4
    go_wp2
    go_ret
    exact ⟨rfl, HB.out⟩
  have hd : decide ((100 : Int) < (n : Int)) = false := by simp; omega
  clear hbig
  by_cases hok : Geom.ok gc gl gk gp gs
  · have HS := Lib.hid (Geom.sizes hok)
    have HC1 := Lib.hid (fun wx (hb : Below w.heap.size w wx) => StripePkg.Next_ok HS.out A n c w.heap.size zs x wx HN.out (nums_keep HZ.out hb) hb.size)
    have HC2 := Lib.hid (fun wx (hb : Below w.heap.size w wx) => StripeRef.Next_ok HS.out A n c w.heap.size zs x wx HN.out (nums_keep HZ.out hb) hb.size)
    obtain ⟨r, HD1, HD2⟩ : ∃ r, Hid (∀ wx (hb : Below w.heap.size w wx), Calls Try.prog 10 #[.agg #[.int .i64 gc, .int .i64 gl, .int .i64 gk, .int .i64 gp, .int .i64 gs], .slice A n c, .int .i64 x] wx fun e w' => e = .returned (.int .i64 r) ∧ Below wx.heap.size wx w') ∧ Hid (∀ wx (hb : Below w.heap.size w wx), Calls Try.prog 11 #[.agg #[.int .i64 gc, .int .i64 gl, .int .i64 gk, .int .i64 gp, .int .i64 gs], .slice A n c, .int .i64 x] wx fun e w' => e = .returned (.int .i64 r) ∧ Below wx.heap.size wx w') := by
      obtain ⟨r, hr⟩ := nxt_is (live zs (gc * gl)) (max x 0) (gc * gl * gp)
      exact ⟨r, Lib.hid fun wx hb => (HC1.out wx hb).mono fun e w' ⟨r', h1, h2, h3⟩ => ⟨by rw [h1, h2.one hr], h3⟩, Lib.hid fun wx hb => (HC2.out wx hb).mono fun e w' ⟨r', h1, h2, h3⟩ => ⟨by rw [h1, h2.one hr], h3⟩⟩
    clear hok HC1 HC2
    go_enter Try.func3, Try.ntmps3
    go_wp2_with fail
    refine (awake_any _).mono ?_
    rintro e w1 ⟨rfl, hb⟩
    replace HB := Lib.hid (below_then HB.out hb).drew
    replace HG := Lib.hid (geo_keep HG.out hb)
    obtain ⟨k0, k1, k2, k3, k4⟩ := HG.out
    clear hb
    go_wp2_with fail
    go_region_held3 (fun w' => w'.cell? ⟨w.heap.size, 0, none⟩ = some (.int .i64 gc) ∧ w'.cell? ⟨w.heap.size, 1, none⟩ = some (.int .i64 gl) ∧ w'.cell? ⟨w.heap.size, 2, none⟩ = some (.int .i64 gk) ∧ w'.cell? ⟨w.heap.size, 3, none⟩ = some (.int .i64 gp) ∧ w'.cell? ⟨w.heap.size, 4, none⟩ = some (.int .i64 gs))
      (first | exact ⟨k0, k1, k2, k3, k4⟩ | exact geo_keep (by assumption) hb | go_keep)
      (first
        | (go_at_call 10; refine (HD1.out _ HB.out).mono ?_; rintro e w2 ⟨rfl, hb⟩; replace HB := Lib.hid (below_then HB.out hb))
        | (go_at_call 11; refine (HD2.out _ HB.out).mono ?_; rintro e w3 ⟨rfl, hb⟩; replace HB := Lib.hid (below_then HB.out hb)))
    all_goals
      rename_i hH
      clear hH
      go_wp2
      go_ret
      exact ⟨by first | rfl | simp, HB.out⟩
  · have HOK := Lib.hid hok
    clear hok
    go_enter Try.func3, Try.ntmps3
    go_wp2_with fail
    refine (awake_any _).mono ?_
    rintro e w1 ⟨rfl, hb⟩
    replace HB := Lib.hid (below_then HB.out hb).drew
    replace HG := Lib.hid (geo_keep HG.out hb)
    obtain ⟨k0, k1, k2, k3, k4⟩ := HG.out
    clear hb
    go_wp2_with fail
    go_region_held3 (fun w' => w'.cell? ⟨w.heap.size, 0, none⟩ = some (.int .i64 gc) ∧ w'.cell? ⟨w.heap.size, 1, none⟩ = some (.int .i64 gl) ∧ w'.cell? ⟨w.heap.size, 2, none⟩ = some (.int .i64 gk) ∧ w'.cell? ⟨w.heap.size, 3, none⟩ = some (.int .i64 gp) ∧ w'.cell? ⟨w.heap.size, 4, none⟩ = some (.int .i64 gs))
      (first | exact ⟨k0, k1, k2, k3, k4⟩ | exact geo_keep (by assumption) hb | go_keep)
      (first
        | (go_at_call 10; refine (StripePkg.Next_bad HOK.out A n c x _).mono ?_; rintro e w2 ⟨rfl, hb⟩; replace HB := Lib.hid (below_then HB.out hb))
        | (go_at_call 11; refine (StripeRef.Next_bad HOK.out A n c x _).mono ?_; rintro e w3 ⟨rfl, hb⟩; replace HB := Lib.hid (below_then HB.out hb)))
    all_goals
      rename_i hH
      clear hH
      go_wp2
      go_ret
      exact ⟨by first | rfl | simp, HB.out⟩


theorem own : ownKnob Try.prog.godebug = none := by kernel_rfl
theorem laid : laidOutB Try.prog = true := by kernel_rfl
theorem one64 : Try.prog.cellsOf 3 = 1 := by kernel_rfl

set_option maxRecDepth 100000 in
theorem lifted (os : Os) (started : os.Started) (H : Type) (enc : TypeId × Value → H) :
    ReturnsInHanded {} Try.checked os 3 .any (Rows.stripeNextSpec.pre6 enc Try.prog Try.f3 Rows.stripeNextRow.domain false) (Rows.stripeNextSpec.post enc Try.prog Try.f3 false true false false) := by
  refine returnsInHanded_of_change (C := Try.checked) own started (by kernel_rfl) Try.func3
    (ChangeSpec.witness6 (enc := enc) (C := Try.checked) false ⟨#[], #[.agg #[.int .i64 0, .int .i64 0, .int .i64 0, .int .i64 0, .int .i64 0], .slice none 0 0, .int .i64 0], []⟩ 8 (by kernel_rfl) (by kernel_rfl) (by kernel_rfl) (by kernel_rfl)) ?_
  intro W base args ds gs before hval0 hW _ _
  have hval : ∀ (j : Nat) t v, Try.f3.params[j]? = some t → args[j]? = some v → Value.okWide Try.prog W .any base t v := hval0
  have hW' := hW
  obtain ⟨p, q, hA0, hV, rfl, hfz, hnd⟩ := hW
  have hA : DataW.TrodAll enc Try.prog W 0 (fun _ => true) true Try.f3.params.toList args.toList ds p := hA0
  rw [Try.params3] at hA hval
  obtain ⟨v0, v1, v2, d0, d1, d2, p0, p1, p2, rfl, rfl, rfl, h0, h1, h2⟩ := trodAll_three hA
  obtain ⟨c0, l0, k0, q0, s0, rfl⟩ := open_geo Try.underlying23 rfl (by kernel_rfl) (by kernel_rfl) (hval 0 23 v0 rfl rfl) h0
  obtain ⟨A1, n1, c1, zs1, rfl, hnc1, hcm1, hr1⟩ := open_nums Try.underlying24 Try.underlying3 one64 (hval 1 24 v1 rfl rfl) h1
  obtain ⟨a2, rfl, rfl, rfl, wf2⟩ := open_int Try.underlying3 (hval 2 3 v2 rfl rfl) h2
  have hb2 : -9223372036854775808 ≤ a2 ∧ a2 ≤ 9223372036854775807 := by simpa [Lit.wf, IntKind.min, IntKind.max, IntKind.signed, IntKind.bits] using wf2
  refine (walk c0 l0 k0 q0 s0 A1 n1 c1 zs1 a2 W hnc1 hcm1 hr1 hb2.1 hb2.2).mono fun e W' ⟨he, hb⟩ => ?_
  subst he
  exact ⟨_, rfl, Law.post laid (by kernel_rfl) (by kernel_rfl) Try.underlying4 rfl hW' rfl hb⟩

theorem proved : Rows.StripeNextSaid :=
  OpenClaim.holds_of_wide 3 Try.f3 rfl rfl rfl rfl rfl rfl rfl ⟨rfl, rfl, rfl, rfl, rfl⟩ rfl rfl rfl rfl rfl (by kernel_rfl) Try.func3 (by kernel_rfl)
    (of_decide_eq_true (by kernel_rfl)) (by unfold Func.isWrapper; first | (rw [if_pos (by decide +kernel)]; kernel_rfl) | (rw [if_neg (by decide +kernel)]; exact ⟨rfl, rfl⟩))
    (fun os started H enc _ => lifted os started H enc)

end Go.Proofs.Ytenmdgclmjfimaa.stripeNext
