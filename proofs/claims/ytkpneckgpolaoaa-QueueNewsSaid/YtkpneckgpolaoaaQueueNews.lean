/-
  QueueNews holds: which queues there are, and that new ones are empty. No condition.
-/
import Derived.Test.YtkpneckgpolaoaaQueueKit
import Derived.Test.YtkpneckgpolaoaaQueueRefD
namespace Go.Proofs.Ytkpneckgpolaoaa.queueNews
open Go.RowKit Go.ChangeShapes Go.WideShapes Queue QueuePkg QueueLaw QueueRef
set_option maxRecDepth 4000

theorem walk (y z : Int) (w : World) :
    Calls Try.prog 3 #[.int .i64 y, .int .i64 z] w fun e w' => e = .returned (.bool true) ∧ Below w.heap.size w w' := by
  have HA := Lib.hid (awake_any w)
  by_cases hy : 1 ≤ y ∧ y ≤ 4
  · have HN := Lib.hid (fun X (hX : Below w.heap.size w X) => New_m (S := fun _ => False) y hy.1 hy.2 hX (fun b hb => hb.elim))
    have HR := Lib.hid (rNew_ok y hy.1 hy.2)
    have HF := Lib.hid (fun X G (hX : Mine w G y (fun _ => []) (fun _ => False) X) => First_m hX z)
    have HL := Lib.hid (fun X G S (hX : Mine w G y (fun _ => []) S X) => Len_m hX z)
    have HB := Lib.hid (fun X G S (hX : Mine w G y (fun _ => []) S X) => Busy_m hX (fun c _ => by simp) 0)
    have e1 : jobs y (fun _ => []) z = [] := by unfold jobs; split <;> rfl
    have e2 : busy (fun _ => []) 0 = 0 := rfl
    simp only [e1] at HF HL
    simp only [e2] at HB
    clear e1 e2 hy
    go_enter Try.func3, Try.ntmps3
    go_wp2_with fail
    refine HA.out.mono ?_
    rintro e w1 ⟨rfl, hb1⟩
    have HW := Lib.hid hb1
    clear hb1 HA
    go_wp2_with fail
    refine (HN.out _ HW.out).mono ?_
    rintro e w2 ⟨rfl, hm, hb⟩
    have HM := Lib.hid hm
    clear hm hb HN
    go_wp2_with fail
    refine (HR.out _).mono ?_
    rintro e w3 ⟨rfl, hw⟩
    have hb : Below w2.heap.size w2 w3 := by rw [hw]; exact (Below.refl _ _).alloc (Nat.le_refl _) _
    replace HM := Lib.hid (HM.out.same hb)
    clear hw hb HR
    go_wp2_with fail
    refine (HF.out _ _ HM.out).mono ?_
    rintro e w4 ⟨v, rfl, ho, hb⟩
    obtain ⟨A1, n1, c1, rfl⟩ := ho.form
    obtain rfl : 0 = n1 := ho.len
    have hnu : Nums w4 w4.heap.size A1 0 [] := ⟨rfl, fun i hi => absurd hi (by simp)⟩
    replace HM := Lib.hid (HM.out.same hb)
    clear ho hb HF
    go_upto_region 9 with fail
    refine at_wld ?_
    intro Y hY
    have hf : Five Y w4.heap.size 32 (.int .i64 0) (.int .i64 0) (.int .i64 0) (.int .i64 0) (.slice A1 0 c1) := by rw [hY]; exact Five.new w4 _ _ _ _ _ _
    have hb : Below w4.heap.size w4 Y := by rw [hY]; exact (Below.refl _ _).alloc (Nat.le_refl _) _
    obtain ⟨k0, k1, k2, k3, k4⟩ := hf.cells
    replace HM := Lib.hid (HM.out.same hb)
    have HS := Lib.hid (Same_any zero A1 none 0 c1 0 Y ⟨rfl, fun i hi => absurd hi (by simp [zero])⟩ ⟨rfl, fun i hi => absurd hi (by simp [zero])⟩ (by omega))
    clear hf hb hY hnu
    go_wp2_with fail
    refine HS.out.mono ?_
    rintro e w5 ⟨rfl, hb⟩
    replace HM := Lib.hid (HM.out.same hb)
    clear hb HS k0 k1 k2 k3 k4
    go_wp2_with fail
    refine (HL.out _ _ _ HM.out).mono ?_
    rintro e w6 ⟨rfl, rfl⟩
    clear HL
    go_wp2_with fail
    refine (HB.out _ _ _ HM.out).mono ?_
    rintro e w7 ⟨rfl, hb⟩
    replace HM := Lib.hid (HM.out.same hb)
    clear hb HB
    go_wp2
    go_ret
    exact ⟨rfl, HM.out.below⟩
  · have HN := Lib.hid (New_bad y hy)
    have HR := Lib.hid (rNew_bad y hy)
    clear hy
    go_enter Try.func3, Try.ntmps3
    go_wp2_with fail
    refine HA.out.mono ?_
    rintro e w1 ⟨rfl, hb1⟩
    have HW := Lib.hid hb1
    clear hb1 HA
    go_wp2_with fail
    refine (HN.out _).mono ?_
    rintro e w2 ⟨rfl, rfl⟩
    clear HN
    go_wp2_with fail
    refine (HR.out _).mono ?_
    rintro e w3 ⟨rfl, rfl⟩
    clear HR
    go_wp2
    go_ret
    exact ⟨rfl, HW.out⟩

theorem own : ownKnob Try.prog.godebug = none := by kernel_rfl
theorem laid : laidOutB Try.prog = true := by kernel_rfl

set_option maxRecDepth 100000 in
theorem lifted (os : Os) (started : os.Started) (H : Type) (enc : TypeId × Value → H) :
    ReturnsInHanded {} Try.checked os 3 .any (Rows.queueNewsSpec.pre6 enc Try.prog Try.f3 Rows.queueNewsRow.domain false) (Rows.queueNewsSpec.post enc Try.prog Try.f3 false true false false) := by
  refine returnsInHanded_of_change (C := Try.checked) own started (by kernel_rfl) Try.func3
    (ChangeSpec.witness6 (enc := enc) (C := Try.checked) false ⟨#[], #[.int .i64 0, .int .i64 0], []⟩ 8 (by kernel_rfl) (by kernel_rfl) (by kernel_rfl) (by kernel_rfl)) ?_
  intro W base args ds gs before hval0 hW _ _
  have hval : ∀ (j : Nat) t v, Try.f3.params[j]? = some t → args[j]? = some v → Value.okWide Try.prog W .any base t v := hval0
  have hW' := hW
  obtain ⟨p, q, hA0, hV, rfl, hfz, hnd⟩ := hW
  have hA : DataW.TrodAll enc Try.prog W 0 (fun _ => true) true Try.f3.params.toList args.toList ds p := hA0
  rw [Try.params3] at hA hval
  obtain ⟨v0, v1, d0, d1, p0, p1, rfl, rfl, rfl, h0, h1⟩ := trodAll_two hA
  obtain ⟨a0, rfl, rfl, rfl, _⟩ := open_int Try.underlying3 (hval 0 3 v0 rfl rfl) h0
  obtain ⟨a1, rfl, rfl, rfl, _⟩ := open_int Try.underlying3 (hval 1 3 v1 rfl rfl) h1
  refine (walk a0 a1 W).mono fun e W' ⟨he, hb⟩ => ?_
  subst he
  exact ⟨_, rfl, Law.post laid (by kernel_rfl) (by kernel_rfl) Try.underlying4 rfl hW' rfl hb⟩

theorem proved : Rows.QueueNewsSaid :=
  OpenClaim.holds_of_wide 3 Try.f3 rfl rfl rfl rfl rfl rfl rfl ⟨rfl, rfl, rfl, rfl, rfl⟩ rfl rfl rfl rfl rfl (by kernel_rfl) Try.func3 (by kernel_rfl)
    (of_decide_eq_true (by kernel_rfl)) (by unfold Func.isWrapper; first | (rw [if_pos (by decide +kernel)]; kernel_rfl) | (rw [if_neg (by decide +kernel)]; exact ⟨rfl, rfl⟩))
    (fun os started H enc _ => lifted os started H enc)

end Go.Proofs.Ytkpneckgpolaoaa.queueNews
