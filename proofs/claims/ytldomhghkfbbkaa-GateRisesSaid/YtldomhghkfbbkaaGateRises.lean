/-
  GateRises holds: the more is free, the more are the clients', and the fewer the others'; together they are all. No condition.
-/
import Derived.Test.YtldomhghkfbbkaaGateKit
namespace Go.Proofs.Ytldomhghkfbbkaa.gateRises
open Go.RowKit Go.ChangeShapes Go.WideShapes Gate GatePkg GateRef GateLaw Lib
set_option maxRecDepth 4000

set_option maxHeartbeats 4000000 in
theorem walk (y z u x m : Int) (w : World) (_hy : B64 y) (_h0 : -9223372036854775808 ≤ m) (_h1 : m ≤ 9223372036854775807) :
    Calls Try.prog 4 #[.agg #[.int .i64 y, .int .i64 z, .int .i64 u, .int .i64 x], .int .i64 m] w fun e w' => e = .returned (.bool true) ∧ Below w.heap.size w w' := by
  have HA := Lib.hid (fun W => awake_any W)
  have hS := fun W => Split_any y z u x W
  have hR := fun W => Split_any m z u x W
  rcases hok : ok z u x with _ | _
  · obtain ⟨e1, e2⟩ := bad (free := y) hok
    obtain ⟨e3, e4⟩ := bad (free := m) hok
    rw [e1, e2] at hS
    rw [e3, e4] at hR
    have HS := Lib.hid hS
    have HR := Lib.hid hR
    have hn : ¬ (0 ≤ z ∧ z < u ∧ u ≤ 4096 ∧ 0 ≤ x ∧ x ≤ 256) := fun h => by
      rw [(ok_iff _ _ _).2 h] at hok
      exact Bool.noConfusion hok
    clear hok e1 e2 e3 e4 hS hR _hy _h0 _h1
    by_cases k1 : z < 0
    · clear hn
      go_enter Try.func4, Try.ntmps4
      go_wp2_with (first | (refine (HA.out _).mono ?_; rintro e w' ⟨rfl, hw⟩; subst hw; clear HA) | (refine (HS.out _).mono ?_; rintro e w' ⟨rfl, hw⟩; subst hw; clear HS) | (refine (HR.out _).mono ?_; rintro e w' ⟨rfl, hw⟩; subst hw; clear HR))
      go_ret
      exact ⟨by first | rfl | simp, (Below.refl _ w).alloc (Nat.le_refl _) _⟩
    · by_cases k2 : u ≤ z
      · clear hn
        go_enter Try.func4, Try.ntmps4
        go_wp2_with (first | (refine (HA.out _).mono ?_; rintro e w' ⟨rfl, hw⟩; subst hw; clear HA) | (refine (HS.out _).mono ?_; rintro e w' ⟨rfl, hw⟩; subst hw; clear HS) | (refine (HR.out _).mono ?_; rintro e w' ⟨rfl, hw⟩; subst hw; clear HR))
        go_ret
        exact ⟨by first | rfl | simp, (Below.refl _ w).alloc (Nat.le_refl _) _⟩
      · by_cases k3 : 4096 < u
        · clear hn
          go_enter Try.func4, Try.ntmps4
          go_wp2_with (first | (refine (HA.out _).mono ?_; rintro e w' ⟨rfl, hw⟩; subst hw; clear HA) | (refine (HS.out _).mono ?_; rintro e w' ⟨rfl, hw⟩; subst hw; clear HS) | (refine (HR.out _).mono ?_; rintro e w' ⟨rfl, hw⟩; subst hw; clear HR))
          go_ret
          exact ⟨by first | rfl | simp, (Below.refl _ w).alloc (Nat.le_refl _) _⟩
        · by_cases k4 : x < 0
          · clear hn
            go_enter Try.func4, Try.ntmps4
            go_wp2_with (first | (refine (HA.out _).mono ?_; rintro e w' ⟨rfl, hw⟩; subst hw; clear HA) | (refine (HS.out _).mono ?_; rintro e w' ⟨rfl, hw⟩; subst hw; clear HS) | (refine (HR.out _).mono ?_; rintro e w' ⟨rfl, hw⟩; subst hw; clear HR))
            go_ret
            exact ⟨by first | rfl | simp, (Below.refl _ w).alloc (Nat.le_refl _) _⟩
          · have k5 : 256 < x := by omega
            clear hn
            go_enter Try.func4, Try.ntmps4
            go_wp2_with (first | (refine (HA.out _).mono ?_; rintro e w' ⟨rfl, hw⟩; subst hw; clear HA) | (refine (HS.out _).mono ?_; rintro e w' ⟨rfl, hw⟩; subst hw; clear HS) | (refine (HR.out _).mono ?_; rintro e w' ⟨rfl, hw⟩; subst hw; clear HR))
            go_ret
            exact ⟨by first | rfl | simp, (Below.refl _ w).alloc (Nat.le_refl _) _⟩
  · obtain ⟨b1, b2, b3, b4, b5⟩ := (ok_iff _ _ _).1 hok
    have c1 := bounds hok (free := y)
    have c2 := bounds hok (free := m)
    have c3 := all hok (free := y)
    have c4 := all hok (free := m)
    have c5 : y ≤ m → fst y z u x ≤ fst m z u x := fun h => rises hok h
    have c6 : y ≤ z → fst y z u x = 0 := fun h => (low_case hok h).1
    have c7 : u ≤ y → snd y z u x = 0 := fun h => (high_case hok h).2
    have HS := Lib.hid hS
    have HR := Lib.hid hR
    clear hS hR hok
    generalize fst y z u x = p at *
    generalize snd y z u x = q at *
    generalize fst m z u x = r at *
    generalize snd m z u x = s at *
    have k1 : decide (z < 0) = false := by simp; omega
    have k2 : decide (u ≤ z) = false := by simp; omega
    have k3 : decide (4096 < u) = false := by simp; omega
    have k4 : decide (x < 0) = false := by simp; omega
    have k5 : decide (256 < x) = false := by simp; omega
    have k6 : decide (p < 0) = false := by simp; omega
    have k7 : decide (q < 0) = false := by simp; omega
    have k8 : IntKind.i64.wrap (p + q) = x := by rw [IntKind.wrap_i64]; omega
    have k9 : IntKind.i64.wrap (r + s) = x := by rw [IntKind.wrap_i64]; omega
    rcases hd1 : decide (m < y) with _ | _
    · have d1 : decide (p ≤ r) = true := by simp at hd1 ⊢; exact c5 hd1
      have d2 : decide (s ≤ q) = true := by simp at hd1 d1 ⊢; omega
      rcases hd2 : decide (z < y) with _ | _
      · have hp : p = 0 := c6 (by simp at hd2; omega)
        rcases hd3 : decide (y < u) with _ | _
        · exfalso
          simp at hd2 hd3
          omega
        · have hq : x = q := by omega
          subst hp
          subst hq
          replace k8 : IntKind.i64.wrap x = x := by rw [IntKind.wrap_i64]; omega
          clear b1 b2 b3 b4 b5 c1 c2 c3 c4 c5 c6 c7 _hy _h0 _h1
          go_enter Try.func4, Try.ntmps4
          go_wp2_with (first | (refine (HA.out _).mono ?_; rintro e w' ⟨rfl, hw⟩; subst hw; clear HA) | (refine (HS.out _).mono ?_; rintro e w' ⟨rfl, hw⟩; subst hw; clear HS) | (refine (HR.out _).mono ?_; rintro e w' ⟨rfl, hw⟩; subst hw; clear HR))
          go_ret
          exact ⟨by first | rfl | simp, (Below.refl _ w).alloc (Nat.le_refl _) _⟩
      · rcases hd3 : decide (y < u) with _ | _
        · have hq : q = 0 := c7 (by simp at hd3; omega)
          have hp : x = p := by omega
          subst hq
          subst hp
          replace k8 : IntKind.i64.wrap x = x := by rw [IntKind.wrap_i64]; omega
          clear b1 b2 b3 b4 b5 c1 c2 c3 c4 c5 c6 c7 _hy _h0 _h1
          go_enter Try.func4, Try.ntmps4
          go_wp2_with (first | (refine (HA.out _).mono ?_; rintro e w' ⟨rfl, hw⟩; subst hw; clear HA) | (refine (HS.out _).mono ?_; rintro e w' ⟨rfl, hw⟩; subst hw; clear HS) | (refine (HR.out _).mono ?_; rintro e w' ⟨rfl, hw⟩; subst hw; clear HR))
          go_ret
          exact ⟨by first | rfl | simp, (Below.refl _ w).alloc (Nat.le_refl _) _⟩
        · clear b1 b2 b3 b4 b5 c1 c2 c3 c4 c5 c6 c7 _hy _h0 _h1
          go_enter Try.func4, Try.ntmps4
          go_wp2_with (first | (refine (HA.out _).mono ?_; rintro e w' ⟨rfl, hw⟩; subst hw; clear HA) | (refine (HS.out _).mono ?_; rintro e w' ⟨rfl, hw⟩; subst hw; clear HS) | (refine (HR.out _).mono ?_; rintro e w' ⟨rfl, hw⟩; subst hw; clear HR))
          go_ret
          exact ⟨by first | rfl | simp, (Below.refl _ w).alloc (Nat.le_refl _) _⟩
    · rcases hd2 : decide (z < y) with _ | _
      · have hp : p = 0 := c6 (by simp at hd2; omega)
        rcases hd3 : decide (y < u) with _ | _
        · exfalso
          simp at hd2 hd3
          omega
        · have hq : x = q := by omega
          subst hp
          subst hq
          replace k8 : IntKind.i64.wrap x = x := by rw [IntKind.wrap_i64]; omega
          clear b1 b2 b3 b4 b5 c1 c2 c3 c4 c5 c6 c7 _hy _h0 _h1
          go_enter Try.func4, Try.ntmps4
          go_wp2_with (first | (refine (HA.out _).mono ?_; rintro e w' ⟨rfl, hw⟩; subst hw; clear HA) | (refine (HS.out _).mono ?_; rintro e w' ⟨rfl, hw⟩; subst hw; clear HS) | (refine (HR.out _).mono ?_; rintro e w' ⟨rfl, hw⟩; subst hw; clear HR))
          go_ret
          exact ⟨by first | rfl | simp, (Below.refl _ w).alloc (Nat.le_refl _) _⟩
      · rcases hd3 : decide (y < u) with _ | _
        · have hq : q = 0 := c7 (by simp at hd3; omega)
          have hp : x = p := by omega
          subst hq
          subst hp
          replace k8 : IntKind.i64.wrap x = x := by rw [IntKind.wrap_i64]; omega
          clear b1 b2 b3 b4 b5 c1 c2 c3 c4 c5 c6 c7 _hy _h0 _h1
          go_enter Try.func4, Try.ntmps4
          go_wp2_with (first | (refine (HA.out _).mono ?_; rintro e w' ⟨rfl, hw⟩; subst hw; clear HA) | (refine (HS.out _).mono ?_; rintro e w' ⟨rfl, hw⟩; subst hw; clear HS) | (refine (HR.out _).mono ?_; rintro e w' ⟨rfl, hw⟩; subst hw; clear HR))
          go_ret
          exact ⟨by first | rfl | simp, (Below.refl _ w).alloc (Nat.le_refl _) _⟩
        · clear b1 b2 b3 b4 b5 c1 c2 c3 c4 c5 c6 c7 _hy _h0 _h1
          go_enter Try.func4, Try.ntmps4
          go_wp2_with (first | (refine (HA.out _).mono ?_; rintro e w' ⟨rfl, hw⟩; subst hw; clear HA) | (refine (HS.out _).mono ?_; rintro e w' ⟨rfl, hw⟩; subst hw; clear HS) | (refine (HR.out _).mono ?_; rintro e w' ⟨rfl, hw⟩; subst hw; clear HR))
          go_ret
          exact ⟨by first | rfl | simp, (Below.refl _ w).alloc (Nat.le_refl _) _⟩

theorem own : ownKnob Try.prog.godebug = none := by kernel_rfl
theorem laid : laidOutB Try.prog = true := by kernel_rfl
theorem one64 : Try.prog.cellsOf 3 = 1 := by kernel_rfl

set_option maxRecDepth 100000 in
theorem lifted (os : Os) (started : os.Started) (H : Type) (enc : TypeId × Value → H) :
    ReturnsInHanded {} Try.checked os 4 .any (Rows.gateRisesSpec.pre6 enc Try.prog Try.f4 Rows.gateRisesRow.domain false) (Rows.gateRisesSpec.post enc Try.prog Try.f4 false true false false) := by
  refine returnsInHanded_of_change (C := Try.checked) own started (by kernel_rfl) Try.func4
    (ChangeSpec.witness6 (enc := enc) (C := Try.checked) false ⟨#[], #[.agg #[.int .i64 0, .int .i64 0, .int .i64 0, .int .i64 0], .int .i64 0], []⟩ 8 (by kernel_rfl) (by kernel_rfl) (by kernel_rfl) (by kernel_rfl)) ?_
  intro W base args ds gs before hval0 hW _ _
  have hval : ∀ (j : Nat) t v, Try.f4.params[j]? = some t → args[j]? = some v → Value.okWide Try.prog W .any base t v := hval0
  have hW' := hW
  obtain ⟨p, q, hA0, hV, rfl, hfz, hnd⟩ := hW
  have hA : DataW.TrodAll enc Try.prog W 0 (fun _ => true) true Try.f4.params.toList args.toList ds p := hA0
  rw [Try.params4] at hA hval
  obtain ⟨v0, v1, d0, d1, p0, p1, rfl, rfl, rfl, h0, h1⟩ := trodAll_two hA
  obtain ⟨y0, z0, u0, x0, rfl, hy0, hz0, hu0, hx0⟩ := GateLaw.open_four Try.underlying22 (by kernel_rfl) Try.underlying3 one64 (hval 0 22 v0 rfl rfl) h0
  obtain ⟨a1, rfl, rfl, rfl, wf1⟩ := open_int Try.underlying3 (hval 1 3 v1 rfl rfl) h1
  have hb1 : -9223372036854775808 ≤ a1 ∧ a1 ≤ 9223372036854775807 := by simpa [Lit.wf, IntKind.min, IntKind.max, IntKind.signed, IntKind.bits] using wf1
  refine (walk y0 z0 u0 x0 a1 W hy0 hb1.1 hb1.2).mono fun e W' ⟨he, hb⟩ => ?_
  subst he
  exact ⟨_, rfl, Law.post laid (by kernel_rfl) (by kernel_rfl) Try.underlying4 rfl hW' rfl hb⟩

theorem proved : Rows.GateRisesSaid :=
  OpenClaim.holds_of_wide 4 Try.f4 rfl rfl rfl rfl rfl rfl rfl ⟨rfl, rfl, rfl, rfl, rfl⟩ rfl rfl rfl rfl rfl (by kernel_rfl) Try.func4 (by kernel_rfl)
    (of_decide_eq_true (by kernel_rfl)) (by unfold Func.isWrapper; first | (rw [if_pos (by decide +kernel)]; kernel_rfl) | (rw [if_neg (by decide +kernel)]; exact ⟨rfl, rfl⟩))
    (fun os started H enc _ => lifted os started H enc)

end Go.Proofs.Ytldomhghkfbbkaa.gateRises
