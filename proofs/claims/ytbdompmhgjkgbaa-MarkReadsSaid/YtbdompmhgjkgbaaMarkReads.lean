/-
  MarkReads: for every slice of bytes the law answers true. No condition.
-/
import Derived.Test.YtbdompmhgjkgbaaMarkRef2
namespace Go.Proofs.Ytbdompmhgjkgbaa.markReads
open Go.ChangeShapes Go.WideShapes Go.ChangeAt Go.RowKit Go.Proofs.Ytbdompmhgjkgbaa.OobPkg Go.Proofs.Ytbdompmhgjkgbaa.MarkPkg
set_option maxRecDepth 4000

set_option maxHeartbeats 1000000 in
theorem walk (A : Option Addr) (n c : Nat) (b : List UInt8) (w : World) (hnc : n ≤ c) (_hcm : c ≤ maxLen) (hr : Bytes w w.heap.size A n b) :
    Calls Try.prog 4 #[.slice A n c] w fun e w' => e = .returned (.bool true) ∧ Below w.heap.size w w' := by
  have hu := fun w' h => Read_any A n c b w' h
  have hv := fun w' h => rRead_any A n c b w' hnc h
  generalize Mark.rd b = q at hu hv
  obtain ⟨k, l, s, z⟩ := q
  have HU := Lib.hid hu
  have HV := Lib.hid hv
  have HR := Lib.hid hr
  clear hu hv hr
  go_enter Try.func4, Try.ntmps4
  go_wp2_with fail
  refine (awake_any _).mono ?_
  rintro e w1 ⟨rfl, hb⟩
  have HB := Lib.hid hb
  clear hb
  go_wp2_with fail
  refine (HU.out w1 (bytes_more (bytes_keep HR.out HB.out) HB.out.size)).mono ?_
  rintro e w2 ⟨rfl, hb⟩
  replace HB := Lib.hid (below_on HB.out hb)
  have HP := Lib.hid (Three.new 23 w2 k l s)
  replace HB := Lib.hid (HB.out.alloc HB.out.size (.cells #[.int .i64 k, .int .i64 l, .int .i64 s] 23))
  clear hb
  go_upto_region 3 with fail
  refine at_world ?_
  intro w3 hw3
  rw [← hw3] at HP HB
  clear hw3
  generalize w2.heap.size = g2 at HP ⊢
  go_wp2_with fail
  refine (HV.out w3 (bytes_more (bytes_keep HR.out HB.out) HB.out.size)).mono ?_
  rintro e w4 ⟨rfl, hb⟩
  replace HB := Lib.hid (below_on HB.out hb)
  replace HP := Lib.hid ((HP.out.keep hb).old (.cells #[.int .i64 k, .int .i64 l, .int .i64 s] 23))
  have HQ := Lib.hid (Three.new 23 w4 k l s)
  replace HB := Lib.hid (HB.out.alloc HB.out.size (.cells #[.int .i64 k, .int .i64 l, .int .i64 s] 23))
  clear hb
  go_upto_region 4 with fail
  refine at_world ?_
  intro w5 hw5
  rw [← hw5] at HP HB HQ
  clear hw5
  generalize w4.heap.size = g4 at HQ ⊢
  have p0 := HP.out.c0
  have p1 := HP.out.c1
  have p2 := HP.out.c2
  have q0 := HQ.out.c0
  have q1 := HQ.out.c1
  have q2 := HQ.out.c2
  go_wp2
  go_ret
  exact ⟨by simp, HB.out⟩

theorem own : ownKnob Try.prog.godebug = none := by kernel_rfl
theorem laid : laidOutB Try.prog = true := by kernel_rfl
theorem one8 : Try.prog.cellsOf 5 = 1 := by kernel_rfl

set_option maxRecDepth 100000 in
theorem lifted (os : Os) (started : os.Started) (H : Type) (enc : TypeId × Value → H) :
    ReturnsInHanded {} Try.checked os 4 .any (Rows.markReadsSpec.pre6 enc Try.prog Try.f4 Rows.markReadsRow.domain false) (Rows.markReadsSpec.post enc Try.prog Try.f4 false true false false) := by
  refine returnsInHanded_of_change (C := Try.checked) own started (by kernel_rfl) Try.func4
    (ChangeSpec.witness6 (enc := enc) (C := Try.checked) false ⟨#[], #[.slice none 0 0], []⟩ 8 (by kernel_rfl) (by kernel_rfl) (by kernel_rfl) (by kernel_rfl)) ?_
  intro W base args ds gs before hval0 hW _ _
  have hval : ∀ (j : Nat) t v, Try.f4.params[j]? = some t → args[j]? = some v → Value.okWide Try.prog W .any base t v := hval0
  have hW' := hW
  obtain ⟨p, q, hA0, hV, rfl, hfz, hnd⟩ := hW
  have hA : DataW.TrodAll enc Try.prog W 0 (fun _ => true) true Try.f4.params.toList args.toList ds p := hA0
  rw [Try.params4] at hA hval
  obtain ⟨v0, d0, rfl, rfl, h0⟩ := trodAll_one hA
  obtain ⟨A0, n0, c0, xs0, rfl, hnc0, hcm0, hr0⟩ := open_bytes Try.underlying25 Try.underlying5 one8 (hval 0 25 v0 rfl rfl) h0
  refine (walk A0 n0 c0 xs0 W hnc0 hcm0 hr0).mono fun e W' ⟨he, hb⟩ => ?_
  subst he
  exact ⟨_, rfl, Law.post laid (by kernel_rfl) (by kernel_rfl) Try.underlying4 rfl hW' rfl hb⟩

theorem proved : Rows.MarkReadsSaid :=
  OpenClaim.holds_of_wide 4 Try.f4 rfl rfl rfl rfl rfl rfl rfl ⟨rfl, rfl, rfl, rfl, rfl⟩ rfl rfl rfl rfl rfl (by kernel_rfl) Try.func4 (by kernel_rfl)
    (of_decide_eq_true (by kernel_rfl)) (by unfold Func.isWrapper; first | (rw [if_pos (by decide +kernel)]; kernel_rfl) | (rw [if_neg (by decide +kernel)]; exact ⟨rfl, rfl⟩))
    (fun os started H enc _ => lifted os started H enc)

end Go.Proofs.Ytbdompmhgjkgbaa.markReads
