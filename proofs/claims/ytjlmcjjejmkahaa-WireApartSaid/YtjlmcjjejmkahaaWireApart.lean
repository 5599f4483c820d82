/-
  WireApart: for any two ints the law answers true. No condition.
-/
import Derived.Test.YtjlmcjjejmkahaaWireKit
import Derived.BigQuiet
namespace Go.Proofs.Ytjlmcjjejmkahaa.wireApart
open Go.ChangeShapes Go.WideShapes Go.ChangeAt Go.RowKit
set_option maxRecDepth 4000

theorem run_min2 {P : Program} (a b : Nat) : ∀ (ts : Array TypeId) (t : TypeId) (w : World), (Builtin.min_ ts t #[.int .i64 (a : Int), .int .i64 (b : Int)]).run P w = .ok (.int .i64 ((min a b : Nat) : Int)) w := by
  intro ts t w
  have e : (if (b : Int) < (a : Int) then (b : Int) else (a : Int)) = ((min a b : Nat) : Int) := by split <;> omega
  have h : (Builtin.min_ ts t #[.int .i64 (a : Int), .int .i64 (b : Int)]).run P w = .ok (.int .i64 (if (b : Int) < (a : Int) then (b : Int) else (a : Int))) w := by
    simp [Builtin.min_, Builtin.min2]
  rw [h, e]

set_option maxHeartbeats 400000 in
theorem walk (a b : Int) (w : World) (h0 : -9223372036854775808 ≤ a) (h1 : a ≤ 9223372036854775807) (h2 : -9223372036854775808 ≤ b) (h3 : b ≤ 9223372036854775807) :
    Calls Try.prog 9 #[.int .i64 a, .int .i64 b] w fun e w' => e = .returned (.bool true) ∧ Below w.heap.size w w' := by
  go_enter Try.func9, Try.ntmps9
  go_wp2_with fail
  refine (awake_any _).mono ?_
  rintro e w1 ⟨rfl, hb⟩
  have HB := Lib.hid hb
  have hsz := hb.size
  clear hb
  by_cases ha : a < 0
  · go_wp2
    go_ret
    exact ⟨rfl, HB.out⟩
  · by_cases hb : b < 0
    · go_wp2
      go_ret
      exact ⟨rfl, HB.out⟩
    · rcases Decidable.em (a = b) with rfl | hab
      · go_wp2
        go_ret
        exact ⟨rfl, HB.out⟩
      · obtain ⟨a, rfl⟩ := Int.eq_ofNat_of_zero_le (show 0 ≤ a by omega)
        obtain ⟨b, rfl⟩ := Int.eq_ofNat_of_zero_le (show 0 ≤ b by omega)
        have HA := Lib.hid (Wire.code_apart (show a ≠ b by omega))
        have hpa := Wire.code_pos a
        have hpb := Wire.code_pos b
        have hab' : ((a : Int) == (b : Int)) = false := by simpa using hab
        go_wp2_with fail
        refine (number_one w1 (a : Int) _ rfl _ _ (by omega) h1).mono ?_
        rintro e w2 ⟨v2, rfl, ho2, hb2⟩
        obtain ⟨A2, c2, rfl, hc2, hm2, hr2⟩ := ho2.readsc
        rw [Int.toNat_natCast] at hr2 hc2 ⊢
        have HR2 := Lib.hid hr2
        have HB2 := Lib.hid (HB.out.trans (hb2.mono hsz))
        have hsz2 := HB2.out.size
        clear ho2 hr2 hb2
        generalize Wire.code a = xa at HA hpa HR2 hc2 ⊢
        generalize hla : xa.length = la at HA hpa HR2 hc2 ⊢
        clear hla
        go_wp2_with fail
        refine (number_one w2 (b : Int) _ rfl _ _ (by omega) h3).mono ?_
        rintro e w3 ⟨v3, rfl, ho3, hb3⟩
        obtain ⟨A3, c3, rfl, hc3, hm3, hr3⟩ := ho3.readsc
        rw [Int.toNat_natCast] at hr3 hc3 ⊢
        have HR3 := Lib.hid hr3
        have HR2' := Lib.hid (bytes_keep HR2.out hb3)
        have HB3 := Lib.hid (HB2.out.trans (hb3.mono hsz2))
        clear ho3 hr3 hb3
        generalize Wire.code b = xb at HA hpb HR3 hc3 ⊢
        generalize hlb : xb.length = lb at HA hpb HR3 hc3 ⊢
        clear hlb
        have hmin := run_min2 (P := Try.prog) la lb
        obtain ⟨k, hk⟩ : ∃ k, k = min la lb := ⟨_, rfl⟩
        rw [← hk] at HA hmin
        have hk1 : k ≤ la := by omega
        have hk2 : k ≤ lb := by omega
        have hk0 : decide (0 < k) = true := by simp; omega
        have hk3 : (k : Int) ≤ (c2 : Int) := by omega
        have hk4 : (k : Int) ≤ (c3 : Int) := by omega
        have hk5 : (0 : Int) ≤ (k : Int) := by omega
        clear hk
        have hs1 := run_strs (P := Try.prog) w3 24 9 5 Try.underlying24 Try.underlying5 Try.underlying9 (c := c2) (bytes_take HR2'.out hk1)
        have hs2 := run_strs (P := Try.prog) w3 24 9 5 Try.underlying24 Try.underlying5 Try.underlying9 (c := c3) (bytes_take HR3.out hk2)
        have hd := str_ne HA.out
        generalize str (xa.take k) = S1 at hs1 hd
        generalize str (xb.take k) = S2 at hs2 hd
        go_wp2
        clear hmin
        go_quiet (fail)
        clear hs1 hs2 hd
        go_wp2
        go_ret
        exact ⟨rfl, below_draws HB3.out nq⟩

theorem own : ownKnob Try.prog.godebug = none := by kernel_rfl
theorem laid : laidOutB Try.prog = true := by kernel_rfl

set_option maxRecDepth 100000 in
theorem lifted (os : Os) (started : os.Started) (H : Type) (enc : TypeId × Value → H) :
    ReturnsInHanded {} Try.checked os 9 .any (Rows.wireApartSpec.pre6 enc Try.prog Try.f9 Rows.wireApartRow.domain false) (Rows.wireApartSpec.post enc Try.prog Try.f9 false true false false) := by
  refine returnsInHanded_of_change (C := Try.checked) own started (by kernel_rfl) Try.func9
    (ChangeSpec.witness6 (enc := enc) (C := Try.checked) false ⟨#[], #[.int .i64 0, .int .i64 0], []⟩ 8 (by kernel_rfl) (by kernel_rfl) (by kernel_rfl) (by kernel_rfl)) ?_
  intro W base args ds gs before hval0 hW _ _
  have hval : ∀ (j : Nat) t v, Try.f9.params[j]? = some t → args[j]? = some v → Value.okWide Try.prog W .any base t v := hval0
  have hW' := hW
  obtain ⟨p, q, hA0, hV, rfl, hfz, hnd⟩ := hW
  have hA : DataW.TrodAll enc Try.prog W 0 (fun _ => true) true Try.f9.params.toList args.toList ds p := hA0
  rw [Try.params9] at hA hval
  obtain ⟨v0, v1, d0, d1, p0, p1, rfl, rfl, rfl, h0, h1⟩ := trodAll_two hA
  obtain ⟨a0, rfl, rfl, rfl, wf0⟩ := open_int Try.underlying3 (hval 0 3 v0 rfl rfl) h0
  have hb0 : -9223372036854775808 ≤ a0 ∧ a0 ≤ 9223372036854775807 := by simpa [Lit.wf, IntKind.min, IntKind.max, IntKind.signed, IntKind.bits] using wf0
  obtain ⟨a1, rfl, rfl, rfl, wf1⟩ := open_int Try.underlying3 (hval 1 3 v1 rfl rfl) h1
  have hb1 : -9223372036854775808 ≤ a1 ∧ a1 ≤ 9223372036854775807 := by simpa [Lit.wf, IntKind.min, IntKind.max, IntKind.signed, IntKind.bits] using wf1
  refine (walk a0 a1 W hb0.1 hb0.2 hb1.1 hb1.2).mono fun e W' ⟨he, hb⟩ => ?_
  subst he
  exact ⟨_, rfl, Law.post laid (by kernel_rfl) (by kernel_rfl) Try.underlying4 rfl hW' rfl hb⟩

theorem proved : Rows.WireApartSaid :=
  OpenClaim.holds_of_wide 9 Try.f9 rfl rfl rfl rfl rfl rfl rfl ⟨rfl, rfl, rfl, rfl, rfl⟩ rfl rfl rfl rfl rfl (by kernel_rfl) Try.func9 (by kernel_rfl)
    (of_decide_eq_true (by kernel_rfl)) (by unfold Func.isWrapper; first | (rw [if_pos (by decide +kernel)]; kernel_rfl) | (rw [if_neg (by decide +kernel)]; exact ⟨rfl, rfl⟩))
    (fun os started H enc _ => lifted os started H enc)

end Go.Proofs.Ytjlmcjjejmkahaa.wireApart
