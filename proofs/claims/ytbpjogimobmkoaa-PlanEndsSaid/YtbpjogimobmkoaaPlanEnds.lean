/-
  PlanEnds: for every slice of bytes and every slice of ints the law answers true, and they read afterwards as they read before. No condition.
-/
import Derived.Test.YtbpjogimobmkoaaPlanKit
namespace Go.Proofs.Ytbpjogimobmkoaa.planEnds
open Go.ChangeShapes Go.WideShapes Go.ChangeAt Go.RowKit Go.Proofs.Ytbpjogimobmkoaa.PlanPkg
set_option maxRecDepth 4000

set_option maxHeartbeats 2000000 in
theorem walk (A : Option Addr) (n c : Nat) (xs : List UInt8) (A' : Option Addr) (n' c' : Nat) (zs : List Int) (w : World) (hnc : n ≤ c) (hcm : c ≤ maxLen) (hr : Bytes w w.heap.size A n xs) (hnc' : n' ≤ c') (hcm' : c' ≤ maxLen) (hr' : Nums w w.heap.size A' n' zs) :
    Calls Try.prog 5 #[.slice A n c, .slice A' n' c'] w fun e w' => e = .returned (.bool true) ∧ Below w.heap.size w w' := by
  have HR := Lib.hid hr
  have HR' := Lib.hid hr'
  have hn := Nat.le_trans hnc hcm
  have hn' := Nat.le_trans hnc' hcm'
  clear hr hr'
  unfold maxLen at hn hcm hn' hcm'
  go_enter Try.func5, Try.ntmps5
  go_wp2_with fail
  refine (awake_any _).mono ?_
  rintro e w1 ⟨rfl, hb⟩
  have HB := Lib.hid hb
  clear hb
  by_cases hl : 2000 < n
  · go_wp2
    go_ret
    exact ⟨rfl, HB.out⟩
  · go_wp2_with fail
    refine (New_any A n c w.heap.size xs w1 (by omega) (bytes_keep HR.out HB.out) HB.out.size).mono ?_
    rintro e w2 ⟨g, rfl, hg, hp, hb⟩
    have hlo : w.heap.size ≤ w1.heap.size := HB.out.size
    generalize w1.heap.size = lo at hg hp hlo hb
    have HP := Lib.hid hp
    replace HB := Lib.hid (HB.out.trans (hb.mono hlo))
    clear hp hb
    go_wp2
    go_loopw [7] (fun i wr => ∃ k : Nat, k ≤ n ∧ i = .int .i64 k ∧ At wr lo g (xs.drop k) k ∧ Below w.heap.size w wr) (fun i _ => n - (intOf i).toNat)
    case atStart => exact ⟨0, by omega, rfl, HP.out, HB.out⟩
    case round =>
      obtain ⟨k, hk, rfl, hp, hb⟩ := hrel
      clear HP HB
      have HP := Lib.hid hp
      have HB := Lib.hid hb
      clear hp hb
      by_cases hlt : k < n
      · go_wp2_with fail
        refine (Next_any lo g (xs.drop k) k 4 wr HP.out (by omega) (by omega)).mono ?_
        rintro e w3 ⟨rfl, hp, hgr⟩
        rw [List.tail_drop] at hp
        replace HB := Lib.hid (below_of_grown HB.out hgr HB.out.size (Nat.le_trans hlo hg))
        replace HP := Lib.hid hp
        clear hp hgr
        have h1 := Plan.says_bd (xs.drop k)
        have h2 := Plan.many_bd (xs.drop k) 4
        generalize Plan.says (xs.drop k) = a at h1 h2 ⊢
        generalize Plan.many (xs.drop k) 4 = b at h2 ⊢
        obtain ⟨h3, h4, h5⟩ := h2
        obtain ⟨h6, h7⟩ := h1
        by_cases h8 : 0 < b
        · obtain rfl := h5 h8
          clear h5
          go_wp2
          go_roundw
          case rel => exact ⟨k + 1, by omega, by go_num, HP.out, HB.out⟩
          case measure => simp [intOf]; omega
        · clear h5
          go_wp2
          go_roundw
          case rel => exact ⟨k + 1, by omega, by go_num, HP.out, HB.out⟩
          case measure => simp [intOf]; omega
      · have HK := Lib.hid (show k = n by omega)
        replace HP := Lib.hid (show At wr lo g [] n by
          have h := HP.out
          rw [HK.out, List.drop_eq_nil_of_le (by rw [HR.out.1]; exact Nat.le_refl _)] at h
          exact h)
        clear hk
        go_wp2
        go_loopw [10] (fun i wr => ∃ k : Nat, k ≤ n' ∧ k ≤ 300 ∧ i = .int .i64 k ∧ At wr lo g [] ((n : Int) + (k : Int)) ∧ Below w.heap.size w wr) (fun i _ => n' - (intOf i).toNat)
        case atStart => exact ⟨0, by omega, by omega, rfl, by simpa using HP.out, HB.out⟩
        case round =>
          obtain ⟨j, hj, hj3, rfl, hp, hb⟩ := hrel
          clear HP HB
          have HP := Lib.hid hp
          have HB := Lib.hid hb
          clear hp hb
          by_cases hlt2 : j < n'
          · by_cases hlt3 : j < 300
            · obtain ⟨b, off, z, rfl, hbl, _, hc, _, _⟩ := (nums_keep HR'.out HB.out).at_ hlt2
              go_wp2_with fail
              refine (Next_any lo g [] _ z _ HP.out (by omega) (by omega)).mono ?_
              rintro e w3 ⟨rfl, hp, hgr⟩
              replace HB := Lib.hid (below_of_grown HB.out hgr HB.out.size (Nat.le_trans hlo hg))
              replace HP := Lib.hid hp
              clear hp hgr hc
              have e1 : Plan.says [] = 0 := rfl
              have e2 : Plan.many [] z = 0 := rfl
              rw [e1, e2]
              clear e1 e2
              go_wp2_with fail
              refine (Rest_any lo g [] _ w3 HP.out (by simp)).mono ?_
              rintro e w4 ⟨v, rfl, ho, hb⟩
              obtain ⟨A4, c4, rfl, _⟩ := ho.reads
              replace HP := Lib.hid (HP.out.below hb (by omega))
              replace HB := Lib.hid (below_on HB.out hb HB.out.size)
              clear ho hb
              go_wp2
              go_roundw
              case rel => exact ⟨j + 1, by omega, by omega, by go_num, by have h := HP.out; rw [Int.natCast_add, ← Int.add_assoc]; exact h, HB.out⟩
              case measure => simp [intOf]; omega
            · go_wp2
              go_ret
              exact ⟨rfl, HB.out⟩
          · go_wp2
            go_ret
            exact ⟨rfl, HB.out⟩

theorem own : ownKnob Try.prog.godebug = none := by kernel_rfl
theorem laid : laidOutB Try.prog = true := by kernel_rfl
theorem one8 : Try.prog.cellsOf 5 = 1 := by kernel_rfl
theorem one64 : Try.prog.cellsOf 3 = 1 := by kernel_rfl

set_option maxRecDepth 100000 in
theorem lifted (os : Os) (started : os.Started) (H : Type) (enc : TypeId × Value → H) :
    ReturnsInHanded {} Try.checked os 5 .any (Rows.planEndsSpec.pre6 enc Try.prog Try.f5 Rows.planEndsRow.domain false) (Rows.planEndsSpec.post enc Try.prog Try.f5 false true false false) := by
  refine returnsInHanded_of_change (C := Try.checked) own started (by kernel_rfl) Try.func5
    (ChangeSpec.witness6 (enc := enc) (C := Try.checked) false ⟨#[], #[.slice none 0 0, .slice none 0 0], []⟩ 8 (by kernel_rfl) (by kernel_rfl) (by kernel_rfl) (by kernel_rfl)) ?_
  intro W base args ds gs before hval0 hW _ _
  have hval : ∀ (j : Nat) t v, Try.f5.params[j]? = some t → args[j]? = some v → Value.okWide Try.prog W .any base t v := hval0
  have hW' := hW
  obtain ⟨p, q, hA0, hV, rfl, hfz, hnd⟩ := hW
  have hA : DataW.TrodAll enc Try.prog W 0 (fun _ => true) true Try.f5.params.toList args.toList ds p := hA0
  rw [Try.params5] at hA hval
  obtain ⟨v0, v1, d0, d1, p0, p1, rfl, rfl, rfl, h0, h1⟩ := trodAll_two hA
  obtain ⟨A0, n0, c0, xs0, rfl, hnc0, hcm0, hr0⟩ := open_bytes Try.underlying22 Try.underlying5 one8 (hval 0 22 v0 rfl rfl) h0
  obtain ⟨A1, n1, c1, zs1, rfl, hnc1, hcm1, hr1⟩ := open_nums Try.underlying23 Try.underlying3 one64 (hval 1 23 v1 rfl rfl) h1
  refine (walk A0 n0 c0 xs0 A1 n1 c1 zs1 W hnc0 hcm0 hr0 hnc1 hcm1 hr1).mono fun e W' ⟨he, hb⟩ => ?_
  subst he
  exact ⟨_, rfl, Law.post laid (by kernel_rfl) (by kernel_rfl) Try.underlying4 rfl hW' rfl hb⟩

theorem proved : Rows.PlanEndsSaid :=
  OpenClaim.holds_of_wide 5 Try.f5 rfl rfl rfl rfl rfl rfl rfl ⟨rfl, rfl, rfl, rfl, rfl⟩ rfl rfl rfl rfl rfl (by kernel_rfl) Try.func5 (by kernel_rfl)
    (of_decide_eq_true (by kernel_rfl)) (by unfold Func.isWrapper; first | (rw [if_pos (by decide +kernel)]; kernel_rfl) | (rw [if_neg (by decide +kernel)]; exact ⟨rfl, rfl⟩))
    (fun os started H enc _ => lifted os started H enc)

end Go.Proofs.Ytbpjogimobmkoaa.planEnds
