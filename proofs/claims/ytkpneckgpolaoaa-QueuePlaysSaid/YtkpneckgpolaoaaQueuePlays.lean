/-
  QueuePlays holds: any calls, one by one, of the program's queues and of the document's, answer the same. No condition.
-/
import Derived.Test.YtkpneckgpolaoaaQueueDoes
namespace Go.Proofs.Ytkpneckgpolaoaa.queuePlays
open Go.RowKit Go.ChangeShapes Go.WideShapes Queue QueuePkg QueueLaw QueueRef QueueOps
set_option maxRecDepth 4000

set_option maxHeartbeats 2000000 in
theorem walk (y : Int) (A : Option Addr) (n cap : Nat) (w : World) (_hnc : n ≤ cap) (_hcm : cap ≤ maxLen) (hr : Ops w w.heap.size A n) :
    Calls Try.prog 4 #[.int .i64 y, .slice A n cap] w fun e w' => e = .returned (.bool true) ∧ Below w.heap.size w w' := by
  have HA := Lib.hid (awake_any w)
  by_cases hy : 1 ≤ y ∧ y ≤ 4
  · have HN := Lib.hid (fun X (hX : Below w.heap.size w X) => New_m (S := fun _ => False) y hy.1 hy.2 hX (fun b hb => hb.elim))
    have HN2 := Lib.hid (fun X g (hX : Mine w g y (fun _ => []) (fun _ => False) X) => Two.new hy.1 hy.2 hX)
    have HR := Lib.hid hr
    unfold maxLen at _hcm
    clear hy hr
    go_enter Try.func4, Try.ntmps4
    go_wp2_with fail
    refine HA.out.mono ?_
    rintro e w1 ⟨rfl, hb1⟩
    have HW := Lib.hid hb1
    clear hb1 HA
    go_wp2_with fail
    refine (HN.out _ HW.out).mono ?_
    rintro e w2 ⟨rfl, hm, _⟩
    obtain ⟨g, hg⟩ : ∃ g, w1.heap.size = g := ⟨_, rfl⟩
    rw [hg] at hm ⊢
    have HM := Lib.hid hm
    clear hm HN hg HW
    go_wp2_with fail
    refine (HN2.out _ _ HM.out).mono ?_
    rintro e w3 ⟨rfl, hm⟩
    obtain ⟨r, hrr⟩ : ∃ r, w2.heap.size = r := ⟨_, rfl⟩
    rw [hrr] at hm ⊢
    have HD : Hid (Duo w g r y 0 w3) := Lib.hid ⟨_, [], hm, Rel.nil y, Nat.le_refl _⟩
    clear hm HN2 hrr HM
    go_wp2
    go_loopw [10] (fun i wr => ∃ j : Nat, i = .int .i64 (j : Int) ∧ j ≤ n ∧ j ≤ 150 ∧ Duo w g r y j wr) (fun i _ => 150 - (intOf i).toNat)
    case atStart => exact ⟨0, rfl, by omega, by omega, HD.out⟩
    case round =>
      obtain ⟨j, rfl, hj, hjh, hd⟩ := hrel
      replace HD := Lib.hid hd
      have hbw : Below w.heap.size w wr := by obtain ⟨_, _, h, _⟩ := hd; exact h.below
      have HBW := Lib.hid hbw
      clear hd hbw
      have hj0 : (0 : Int) ≤ (j : Int) := by omega
      by_cases hjn : j < n
      · have hjn2 : (j : Int) < (n : Int) := by omega
        by_cases hj1 : j < 150
        · have hj2 : (j : Int) < 150 := by omega
          obtain ⟨b, off, x, Ap, cp, rfl, hat⟩ := HR.out j hjn
          have hat2 := hat.keep HBW.out
          obtain ⟨c0, c1, c2, c3, c4, c5, c6, _, _, hcp, _⟩ := hat2
          unfold maxLen at hcp
          by_cases hp : x.j.d.length ≤ 100
          · have hp2 : ¬ ((100 : Int) < (x.j.d.length : Int)) := by omega
            have HC := Lib.hid (does_any HD.out (by omega) x Ap cp (by omega) hat.data)
            unfold opV at HC
            clear hat
            go_wp2_with fail
            refine HC.out.mono ?_
            rintro e w4 ⟨rfl, hd⟩
            replace HD := Lib.hid hd
            clear hd HC c0 c1 c2 c3 c4 c5 c6
            go_wp2
            go_roundw
            case rel => exact ⟨j + 1, by go_num, by omega, by omega, HD.out⟩
            case measure => simp [intOf]; omega
          · have hp2 : (100 : Int) < (x.j.d.length : Int) := by omega
            clear hat
            go_wp2
            go_ret
            exact ⟨rfl, HBW.out⟩
        · have hj2 : ¬ (j : Int) < 150 := by omega
          go_wp2
          go_ret
          exact ⟨rfl, HBW.out⟩
      · have hjn2 : ¬ (j : Int) < (n : Int) := by omega
        go_wp2
        go_ret
        exact ⟨rfl, HBW.out⟩
  · have HN := Lib.hid (New_bad y hy)
    have HR := Lib.hid (rNew_bad y hy)
    clear hy hr
    go_enter Try.func4, Try.ntmps4
    go_wp2_with fail
    refine HA.out.mono ?_
    rintro e w1 ⟨rfl, hb1⟩
    have HW := Lib.hid hb1
    clear hb1 HA
    go_wp2_with fail
    refine (HN.out _).mono ?_
    rintro e w2 ⟨rfl, rfl⟩
    clear HN
    go_wp2_with fail
    refine (HR.out _).mono ?_
    rintro e w3 ⟨rfl, rfl⟩
    clear HR
    go_wp2
    go_loopw [10] (fun i wr => i = .int .i64 0 ∧ Hid (Below w.heap.size w wr)) (fun _ _ => 0)
    case atStart => exact ⟨rfl, HW⟩
    case round =>
      obtain ⟨rfl, HW⟩ := hrel
      by_cases h0 : 0 < n
      · have h1 : (0 : Int) < (n : Int) := by omega
        go_wp2
        go_ret
        exact ⟨rfl, HW.out⟩
      · have h1 : ¬ (0 : Int) < (n : Int) := by omega
        go_wp2
        go_ret
        exact ⟨rfl, HW.out⟩

theorem own : ownKnob Try.prog.godebug = none := by kernel_rfl
theorem laid : laidOutB Try.prog = true := by kernel_rfl

set_option maxRecDepth 100000 in
theorem lifted (os : Os) (started : os.Started) (H : Type) (enc : TypeId × Value → H) :
    ReturnsInHanded {} Try.checked os 4 .any (Rows.queuePlaysSpec.pre6 enc Try.prog Try.f4 Rows.queuePlaysRow.domain false) (Rows.queuePlaysSpec.post enc Try.prog Try.f4 false true false false) := by
  refine returnsInHanded_of_change (C := Try.checked) own started (by kernel_rfl) Try.func4
    (ChangeSpec.witness6 (enc := enc) (C := Try.checked) false ⟨#[], #[.int .i64 0, .slice none 0 0], []⟩ 8 (by kernel_rfl) (by kernel_rfl) (by kernel_rfl) (by kernel_rfl)) ?_
  intro W base args ds gs before hval0 hW _ _
  have hval : ∀ (j : Nat) t v, Try.f4.params[j]? = some t → args[j]? = some v → Value.okWide Try.prog W .any base t v := hval0
  have hW' := hW
  obtain ⟨p, q, hA0, hV, rfl, hfz, hnd⟩ := hW
  have hA : DataW.TrodAll enc Try.prog W 0 (fun _ => true) true Try.f4.params.toList args.toList ds p := hA0
  rw [Try.params4] at hA hval
  obtain ⟨v0, v1, d0, d1, p0, p1, rfl, rfl, rfl, h0, h1⟩ := trodAll_two hA
  obtain ⟨a0, rfl, rfl, rfl, _⟩ := open_int Try.underlying3 (hval 0 3 v0 rfl rfl) h0
  obtain ⟨A1, n1, c1, rfl, hnc1, hcm1, hr1⟩ := QueueOps.open_ops (hval 1 38 v1 rfl rfl) h1
  refine (walk a0 A1 n1 c1 W hnc1 hcm1 hr1).mono fun e W' ⟨he, hb⟩ => ?_
  subst he
  exact ⟨_, rfl, Law.post laid (by kernel_rfl) (by kernel_rfl) Try.underlying4 rfl hW' rfl hb⟩

theorem proved : Rows.QueuePlaysSaid :=
  OpenClaim.holds_of_wide 4 Try.f4 rfl rfl rfl rfl rfl rfl rfl ⟨rfl, rfl, rfl, rfl, rfl⟩ rfl rfl rfl rfl rfl (by kernel_rfl) Try.func4 (by kernel_rfl)
    (of_decide_eq_true (by kernel_rfl)) (by unfold Func.isWrapper; first | (rw [if_pos (by decide +kernel)]; kernel_rfl) | (rw [if_neg (by decide +kernel)]; exact ⟨rfl, rfl⟩))
    (fun os started H enc _ => lifted os started H enc)

end Go.Proofs.Ytkpneckgpolaoaa.queuePlays
