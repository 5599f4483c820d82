/-
  WireFixed: for every number of 32 bits and every slice of bytes the law answers true, and it reads afterwards as it read before. No condition.
-/
import Derived.Test.YtjlmcjjejmkahaaWireKit
import Derived.Deep.RegionHeld
namespace Go.Proofs.Ytjlmcjjejmkahaa.wireFixed
open Go.ChangeShapes Go.WideShapes Go.ChangeAt Go.RowKit
set_option maxRecDepth 4000

set_option maxHeartbeats 400000 in
theorem walk (m : Int) (A : Option Addr) (n c : Nat) (xs : List UInt8) (w : World) (h0 : 0 ≤ m) (h1 : m ≤ 4294967295) (hnc : n ≤ c) (hcm : c ≤ maxLen) (hr : Bytes w w.heap.size A n xs) :
    Calls Try.prog 5 #[.int .u32 m, .slice A n c] w fun e w' => e = .returned (.bool true) ∧ Below w.heap.size w w' := by
  have HR := Lib.hid hr
  clear hr
  have HN := Lib.hid (Nat.le_trans hnc hcm)
  have HC := Lib.hid hcm
  go_enter Try.func5, Try.ntmps5
  go_wp2_with fail
  refine (awake_any _).mono ?_
  rintro e w1 ⟨rfl, hb⟩
  have HR1 := Lib.hid (bytes_keep HR.out hb)
  have HB := Lib.hid hb
  have hsz := hb.size
  clear hb
  go_wp2_with fail
  refine (takeFixed_any _ _ _ _ xs _ hnc HC.out HR1.out).mono ?_
  rintro e w2 ⟨rfl, rfl⟩
  go_wp2_with fail
  refine (rtakeFixed_any _ _ _ _ xs _ HN.out HR1.out).mono ?_
  rintro e w2 ⟨rfl, hb2⟩
  have HB2 := Lib.hid (HB.out.trans (hb2.mono hsz))
  clear hb2
  generalize (tf xs).1 = r1
  generalize (tf xs).2 = r2
  have HBd : Hid (Below w.heap.size w w2.drew) := Lib.hid HB2.out.drew
  have hsz2 := HB2.out.size
  go_wp2
  go_region_held (fun _ => True) (trivial) (first
    | (go_at_call 18; refine (fixed_any m w2.drew h0 h1).mono ?_; rintro e w3 ⟨v3, rfl, ho3, hb3⟩; obtain ⟨A3, c3, rfl, hr3⟩ := ho3.reads; have hs1 := run_str (P := Try.prog) w3 24 9 5 Try.underlying24 Try.underlying5 Try.underlying9 (c := c3) hr3; have HR3 := Lib.hid hr3; have HB3 := Lib.hid hb3; clear ho3 hr3 hb3)
    | (go_at_call 19; refine (rfixed_any m w3 h0 h1).mono ?_; rintro e w4 ⟨v4, rfl, ho4, hb4⟩; obtain ⟨A4, c4, rfl, hr4⟩ := ho4.reads; have hs2 := run_str (P := Try.prog) w4 24 9 5 Try.underlying24 Try.underlying5 Try.underlying9 (c := c4) hr4; have hs3 := run_str (P := Try.prog) w4 24 9 5 Try.underlying24 Try.underlying5 Try.underlying9 (c := c3) (bytes_keep HR3.out hb4); have HB4 := Lib.hid hb4; clear ho4 hr4 hb4))
  all_goals
    clear hs1 hs2 hs3
    go_wp2
    go_ret
    exact ⟨by simp, HBd.out.trans ((HB3.out.mono hsz2).trans (HB4.out.mono (Nat.le_trans hsz2 HB3.out.size)))⟩

theorem own : ownKnob Try.prog.godebug = none := by kernel_rfl
theorem laid : laidOutB Try.prog = true := by kernel_rfl
theorem one8 : Try.prog.cellsOf 5 = 1 := by kernel_rfl

set_option maxRecDepth 100000 in
theorem lifted (os : Os) (started : os.Started) (H : Type) (enc : TypeId × Value → H) :
    ReturnsInHanded {} Try.checked os 5 .any (Rows.wireFixedSpec.pre6 enc Try.prog Try.f5 Rows.wireFixedRow.domain false) (Rows.wireFixedSpec.post enc Try.prog Try.f5 false true false false) := by
  refine returnsInHanded_of_change (C := Try.checked) own started (by kernel_rfl) Try.func5
    (ChangeSpec.witness6 (enc := enc) (C := Try.checked) false ⟨#[], #[.int .u32 0, .slice none 0 0], []⟩ 8 (by kernel_rfl) (by kernel_rfl) (by kernel_rfl) (by kernel_rfl)) ?_
  intro W base args ds gs before hval0 hW _ _
  have hval : ∀ (j : Nat) t v, Try.f5.params[j]? = some t → args[j]? = some v → Value.okWide Try.prog W .any base t v := hval0
  have hW' := hW
  obtain ⟨p, q, hA0, hV, rfl, hfz, hnd⟩ := hW
  have hA : DataW.TrodAll enc Try.prog W 0 (fun _ => true) true Try.f5.params.toList args.toList ds p := hA0
  rw [Try.params5] at hA hval
  obtain ⟨v0, v1, d0, d1, p0, p1, rfl, rfl, rfl, h0, h1⟩ := trodAll_two hA
  obtain ⟨a0, rfl, rfl, rfl, wf0⟩ := open_int Try.underlying32 (hval 0 32 v0 rfl rfl) h0
  have hb0 : 0 ≤ a0 ∧ a0 ≤ 4294967295 := by simpa [Lit.wf, IntKind.min, IntKind.max, IntKind.signed, IntKind.bits] using wf0
  obtain ⟨A1, n1, c1, xs1, rfl, hnc1, hcm1, hr1⟩ := open_bytes Try.underlying24 Try.underlying5 one8 (hval 1 24 v1 rfl rfl) h1
  refine (walk a0 A1 n1 c1 xs1 W hb0.1 hb0.2 hnc1 hcm1 hr1).mono fun e W' ⟨he, hb⟩ => ?_
  subst he
  exact ⟨_, rfl, Law.post laid (by kernel_rfl) (by kernel_rfl) Try.underlying4 rfl hW' rfl hb⟩

theorem proved : Rows.WireFixedSaid :=
  OpenClaim.holds_of_wide 5 Try.f5 rfl rfl rfl rfl rfl rfl rfl ⟨rfl, rfl, rfl, rfl, rfl⟩ rfl rfl rfl rfl rfl (by kernel_rfl) Try.func5 (by kernel_rfl)
    (of_decide_eq_true (by kernel_rfl)) (by unfold Func.isWrapper; first | (rw [if_pos (by decide +kernel)]; kernel_rfl) | (rw [if_neg (by decide +kernel)]; exact ⟨rfl, rfl⟩))
    (fun os started H enc _ => lifted os started H enc)

end Go.Proofs.Ytjlmcjjejmkahaa.wireFixed
