/-
  RingTakes holds: slots are handed out in order, each once; one that comes back is handed out first; for every size, all numbers and every position. No condition.
-/
import Derived.Test.YtmefmhjebodjgaaRingKit
import Derived.Test.YtmefmhjebodjgaaLawKit
import Derived.OpenShut
import Derived.Test.YtmefmhjebodjgaaRingSt
import Derived.Test.YtmefmhjebodjgaaNums
namespace Go.Proofs.Ytmefmhjebodjgaa.ringTakes
open Go.RowKit Go.ChangeShapes Go.WideShapes Ring RingPkg RingLaw
set_option maxRecDepth 4000

set_option maxHeartbeats 4000000 in
theorem walk (size : Int) (A : Option Addr) (n c : Nat) (zs : List Int) (back : Int) (w : World) (_hz0 : -9223372036854775808 ≤ size) (_hz1 : size ≤ 9223372036854775807) (hnc : n ≤ c) (hcm : c ≤ maxLen) (hr : Nums w w.heap.size A n zs) (hb0 : -9223372036854775808 ≤ back) (hb1 : back ≤ 9223372036854775807) :
    Calls Try.prog 6 #[.int .i64 size, .slice A n c, .int .i64 back] w fun e w' => e = .returned (.bool true) ∧ Below w.heap.size w w' := by
  have HZ := Lib.hid hr
  have hn := Nat.le_trans hnc hcm
  clear hr hnc hcm _hz0 _hz1
  unfold maxLen at hn
  by_cases hin : 1 ≤ size ∧ size ≤ 256
  rotate_left
  · have H1 := Lib.hid (fun w => New_out size w hin)
    by_cases hs1 : size < 1
    · clear hin
      go_enter Try.func6, Try.ntmps6
      go_wp2_with fail
      refine (awake_any _).mono ?_
      rintro e w1 ⟨rfl, hb⟩
      have HB := Lib.hid hb
      clear hb
      go_wp2_with fail
      refine (H1.out _).mono ?_
      rintro e w2 ⟨rfl, hw⟩
      subst w2
      go_wp2
      go_ret
      exact ⟨rfl, HB.out⟩
    · have hs2 : 256 < size := by omega
      clear hin
      go_enter Try.func6, Try.ntmps6
      go_wp2_with fail
      refine (awake_any _).mono ?_
      rintro e w1 ⟨rfl, hb⟩
      have HB := Lib.hid hb
      clear hb
      go_wp2_with fail
      refine (H1.out _).mono ?_
      rintro e w2 ⟨rfl, hw⟩
      subst w2
      go_wp2
      go_ret
      exact ⟨rfl, HB.out⟩
  obtain ⟨hs1, hs2⟩ := hin
  obtain ⟨N, rfl⟩ := Int.eq_ofNat_of_zero_le (show 0 ≤ size by omega)
  go_enter Try.func6, Try.ntmps6
  go_wp2_with fail
  refine (awake_any _).mono ?_
  rintro e w1 ⟨rfl, hb⟩
  have HB := Lib.hid hb
  clear hb
  go_wp2_with fail
  refine (New_m w w1 HB.out N hs1 hs2).mono ?_
  rintro e w2 ⟨gd, rfl, h⟩
  have H := Lib.hid h
  clear h HB
  go_wp2
  go_loopw [10] (fun i wr => ∃ k : Nat, k ≤ N ∧ i = .int .i64 k ∧ Mine w gd N (stt k 0) wr) (fun i _ => N - (intOf i).toNat)
  case atStart => exact ⟨0, by omega, rfl, H.out⟩
  case round =>
    obtain ⟨k, hk, rfl, h⟩ := hrel
    replace H := Lib.hid h
    clear h
    by_cases hlt : k < N
    · have HP := Lib.hid (Put_m H.out (by rw [stt_len]; omega) (by omega) (by omega) (by rw [stt_len, stt_tl]; omega) (lbaSlot k) none 0 0 (by omega) (bytes_none _ _))
      go_wp2_with fail
      refine HP.out.mono ?_
      rintro e w3 ⟨rfl, h⟩
      have h2 : Mine w gd N (stt (k + 1) 0) w3 := by rw [stt_snoc]; exact h
      replace H := Lib.hid h2
      clear h h2 HP
      go_wp2
      go_roundw
      case rel => exact ⟨k + 1, by omega, by go_num, H.out⟩
      case measure => simp [intOf]; omega
    · obtain rfl : k = N := by omega
      go_wp2
      go_loopw [11, 12] (fun x i wr => ∃ (j nx : Nat), j ≤ n ∧ j ≤ 300 ∧ nx ≤ k ∧ i = .int .i64 j ∧ x = .int .i64 nx ∧ Mine w gd k (stt k nx) wr) (fun _ i _ => n - (intOf i).toNat)
      case atStart => exact ⟨0, 0, by omega, by omega, by omega, rfl, rfl, H.out⟩
      case round =>
        obtain ⟨j, nx, hj, hj3, hnx, rfl, rfl, h⟩ := hrel
        replace H := Lib.hid h
        clear h
        by_cases hgo : j < n ∧ j < 300
        · obtain ⟨hlt2, hlt3⟩ := hgo
          obtain ⟨b, off, z, rfl, hbl, _, hcw, hz0, hz1⟩ := HZ.out.at_ hlt2
          have hc := (H.out.below.cell (p := ⟨b, off + j, none⟩) hbl).trans hcw
          have HCW := Lib.hid hcw
          obtain ⟨m, hm⟩ : ∃ m, m = min z.toNat (k - nx) := ⟨_, rfl⟩
          have HT := Lib.hid (Take_m H.out (by rw [stt_len]; omega) z)
          rw [stt_sel, take_range', ← hm, stt_mark] at HT
          have hmk : nx + m ≤ k := by omega
          have HM : Hid ((m : Int) = min (max z 0) ((k : Int) - nx)) := Lib.hid (by omega)
          have hm2 : (m : Int) = min (max z 0) ((k : Int) - nx) := HM.out
          clear hm hcw
          go_wp2_with fail
          refine HT.out.mono ?_
          rintro e w4 ⟨u, rfl, ho, h⟩
          obtain ⟨A4, m4, c4, rfl⟩ := ho.form
          obtain rfl : m = m4 := by have := ho.len; simpa [nums] using this
          replace H := Lib.hid h
          have HO := Lib.hid ho
          have hcc := (H.out.below.cell (p := ⟨b, off + j, none⟩) hbl).trans HCW.out
          clear ho h hc HT hm2
          by_cases hzn : z < 0
          · obtain rfl : m = 0 := by have := HM.out; omega
            go_wp2
            go_loop [11, 14] (fun x i => i = .int .i64 0 ∧ x = .int .i64 nx) (fun _ _ => 0)
            case atStart => exact ⟨rfl, rfl⟩
            case round =>
              obtain ⟨rfl, rfl⟩ := hrel
              go_wp2
              go_roundw
              case rel => exact ⟨j + 1, nx, by omega, by omega, by omega, by go_num, rfl, H.out⟩
              case measure => simp [intOf]; omega
          by_cases hzk : z < (k : Int) - nx
          · obtain rfl : z = (m : Int) := by have := HM.out; omega
            go_wp2
            go_loop [11, 14] (fun x i => ∃ q : Nat, q ≤ m ∧ i = .int .i64 q ∧ x = .int .i64 ((nx + q : Nat) : Int)) (fun _ i => m - (intOf i).toNat)
            case atStart => exact ⟨0, by omega, rfl, rfl⟩
            case round =>
              obtain ⟨q, hq, rfl, rfl⟩ := hrel
              by_cases hqm : q < m
              · obtain ⟨g, rfl, _, hgc, hgm⟩ := HO.out.first (by omega)
                have q0 := (HO.out.cell (i := q) (z := ((nx + q : Nat) : Int)) (by unfold nums; rw [List.getElem?_map, List.getElem?_range' hqm]; simp)).1
                have hgm2 : c4 ≤ 9223372036854775807 := hgm
                clear hgm
                obtain ⟨y, hy⟩ : ∃ y, y = nx + q := ⟨_, rfl⟩
                rw [← hy] at q0 ⊢
                have hyk : y < k := by omega
                have HY := Lib.hid hy
                clear hy
                go_wp2
                go_round
                case rel => exact ⟨q + 1, by omega, by go_num, by rw [show ((nx + (q + 1) : Nat) : Int) = (y : Int) + 1 by have := HY.out; omega]⟩
                case measure => simp [intOf]; omega
              · obtain rfl : q = m := by omega
                go_wp2
                go_roundw
                case rel => exact ⟨j + 1, nx + q, by omega, by omega, by omega, by go_num, rfl, H.out⟩
                case measure => simp [intOf]; omega
          have hkn : (k : Int) - (nx : Int) = (m : Int) := by have := HM.out; omega
          go_wp2
          all_goals
            go_loop [11, 14] (fun x i => ∃ q : Nat, q ≤ m ∧ i = .int .i64 q ∧ x = .int .i64 ((nx + q : Nat) : Int)) (fun _ i => m - (intOf i).toNat)
            case atStart => exact ⟨0, by omega, rfl, rfl⟩
            case round =>
              obtain ⟨q, hq, rfl, rfl⟩ := hrel
              by_cases hqm : q < m
              · obtain ⟨g, rfl, _, hgc, hgm⟩ := HO.out.first (by omega)
                have q0 := (HO.out.cell (i := q) (z := ((nx + q : Nat) : Int)) (by unfold nums; rw [List.getElem?_map, List.getElem?_range' hqm]; simp)).1
                have hgm2 : c4 ≤ 9223372036854775807 := hgm
                clear hgm
                obtain ⟨y, hy⟩ : ∃ y, y = nx + q := ⟨_, rfl⟩
                rw [← hy] at q0 ⊢
                have hyk : y < k := by omega
                have HY := Lib.hid hy
                clear hy
                go_wp2
                go_round
                case rel => exact ⟨q + 1, by omega, by go_num, by rw [show ((nx + (q + 1) : Nat) : Int) = (y : Int) + 1 by have := HY.out; omega]⟩
                case measure => simp [intOf]; omega
              · obtain rfl : q = m := by omega
                go_wp2
                go_roundw
                case rel => exact ⟨j + 1, nx + q, by omega, by omega, by omega, by go_num, rfl, H.out⟩
                case measure => simp [intOf]; omega
        · have hsl : (sel (isQ 0) (stt k nx)).length = k - nx := by rw [stt_sel]; simp
          have hsi : ((k - nx : Nat) : Int) = (k : Int) - nx := by omega
          have HW := Lib.hid (Waiting_m H.out (by rw [stt_len]; omega))
          rw [hsl] at HW
          have HSI := Lib.hid hsi
          have HZ2 := HZ
          clear hsl hsi HZ
          have hstop : decide (j < n) = false ∨ (decide (j < n) = true ∧ decide ((j : Int) < 300) = false) := by
            by_cases h : j < n
            · exact .inr ⟨by simpa using h, by have : ¬ j < 300 := fun h2 => hgo ⟨h, h2⟩; simp; omega⟩
            · exact .inl (by simpa using h)
          clear hgo
          rcases hstop with h1 | ⟨h1, h2⟩
          all_goals
            go_wp2_with fail
            refine HW.out.mono ?_
            rintro e w5 ⟨rfl, h⟩
            replace H := Lib.hid h
            clear h HW
            rw [HSI.out]
            by_cases hbk : 0 ≤ back ∧ back < nx
            · obtain ⟨hk0, hk1⟩ := hbk
              obtain ⟨bb, rfl⟩ := Int.eq_ofNat_of_zero_le hk0
              have HBA := Lib.hid (Back_m H.out (by rw [stt_len]; omega) bb _ (by rw [stt_tl]; exact Nat.zero_le _) (stt_at k nx bb (by omega)) (by show (if bb < nx then (1 : Int) else 0) = 1; rw [if_pos (by omega)]))
              go_wp2_with fail
              refine HBA.out.mono ?_
              rintro e w6 ⟨rfl, h⟩
              replace H := Lib.hid h
              clear h HBA
              have hT := Take_m H.out (by rw [List.length_modify, stt_len]; omega) 1
              rw [show (1 : Int).toNat = 1 from rfl, stt_back k nx bb (by omega) (by omega)] at hT
              have HT := Lib.hid hT
              clear hT
              go_wp2_with fail
              refine HT.out.mono ?_
              rintro e w7 ⟨u, rfl, ho, h⟩
              obtain ⟨A7, m7, c7, rfl⟩ := ho.form
              obtain rfl : 1 = m7 := ho.len
              obtain ⟨g, rfl, _, hgc, hgm⟩ := ho.first (by omega)
              have q0 := (ho.cell (i := 0) (z := (bb : Int)) rfl).1
              replace H := Lib.hid h
              clear ho h HT hgm
              go_wp2
              go_ret
              exact ⟨rfl, H.out.below⟩
            · by_cases hth : 0 ≤ back ∧ back < k
              · obtain ⟨bb, rfl⟩ := Int.eq_ofNat_of_zero_le hth.1
                have HBA := Lib.hid (Back_state_m H.out (by rw [stt_len]; omega) bb _ (by rw [stt_tl]; exact Nat.zero_le _) (stt_at k nx bb (by omega)) (by show (if bb < nx then (1 : Int) else 0) ≠ 1; rw [if_neg (by omega)]; decide))
                have hge : nx ≤ bb := by omega
                clear hbk hth
                go_wp2_with fail
                refine HBA.out.mono ?_
                rintro e w6 ⟨rfl, h⟩
                replace H := Lib.hid h
                clear h HBA
                go_wp2
                go_ret
                exact ⟨rfl, H.out.below⟩
              · have HBA := Lib.hid (Back_none_m H.out (by rw [stt_len]; omega) back (by unfold there; rw [stt_len, stt_tl]; omega))
                have hor : back < 0 ∨ (¬ back < 0 ∧ (nx : Int) ≤ back) := by omega
                clear hbk hth
                rcases hor with hor | ⟨hor, hor2⟩
                all_goals
                  go_wp2_with fail
                  refine HBA.out.mono ?_
                  rintro e w6 ⟨rfl, h⟩
                  replace H := Lib.hid h
                  clear h HBA
                  go_wp2
                  go_ret
                  exact ⟨rfl, H.out.below⟩

theorem own : ownKnob Try.prog.godebug = none := by kernel_rfl
theorem laid : laidOutB Try.prog = true := by kernel_rfl
theorem one64 : Try.prog.cellsOf 3 = 1 := by kernel_rfl

set_option maxRecDepth 100000 in
theorem lifted (os : Os) (started : os.Started) (H : Type) (enc : TypeId × Value → H) :
    ReturnsInHanded {} Try.checked os 6 .any (Rows.ringTakesSpec.pre6 enc Try.prog Try.f6 Rows.ringTakesRow.domain false) (Rows.ringTakesSpec.post enc Try.prog Try.f6 false true false false) := by
  refine returnsInHanded_of_change (C := Try.checked) own started (by kernel_rfl) Try.func6
    (ChangeSpec.witness6 (enc := enc) (C := Try.checked) false ⟨#[], #[.int .i64 0, .slice none 0 0, .int .i64 0], []⟩ 8 (by kernel_rfl) (by kernel_rfl) (by kernel_rfl) (by kernel_rfl)) ?_
  intro W base args ds gs before hval0 hW _ _
  have hval : ∀ (j : Nat) t v, Try.f6.params[j]? = some t → args[j]? = some v → Value.okWide Try.prog W .any base t v := hval0
  have hW' := hW
  obtain ⟨p, q, hA0, hV, rfl, hfz, hnd⟩ := hW
  have hA : DataW.TrodAll enc Try.prog W 0 (fun _ => true) true Try.f6.params.toList args.toList ds p := hA0
  rw [Try.params6] at hA hval
  obtain ⟨v0, v1, v2, d0, d1, d2, p0, p1, p2, rfl, rfl, rfl, h0, h1, h2⟩ := trodAll_three hA
  obtain ⟨a0, rfl, rfl, rfl, wf0⟩ := open_int Try.underlying3 (hval 0 3 v0 rfl rfl) h0
  have hb0 : -9223372036854775808 ≤ a0 ∧ a0 ≤ 9223372036854775807 := by simpa [Lit.wf, IntKind.min, IntKind.max, IntKind.signed, IntKind.bits] using wf0
  obtain ⟨A1, n1, c1, zs1, rfl, hnc1, hcm1, hr1⟩ := open_nums Try.underlying41 Try.underlying3 one64 (hval 1 41 v1 rfl rfl) h1
  obtain ⟨a2, rfl, rfl, rfl, wf2⟩ := open_int Try.underlying3 (hval 2 3 v2 rfl rfl) h2
  have hb2 : -9223372036854775808 ≤ a2 ∧ a2 ≤ 9223372036854775807 := by simpa [Lit.wf, IntKind.min, IntKind.max, IntKind.signed, IntKind.bits] using wf2
  refine (walk a0 A1 n1 c1 zs1 a2 W hb0.1 hb0.2 hnc1 hcm1 hr1 hb2.1 hb2.2).mono fun e W' ⟨he, hb⟩ => ?_
  subst he
  exact ⟨_, rfl, Law.post laid (by kernel_rfl) (by kernel_rfl) Try.underlying4 rfl hW' rfl hb⟩

theorem proved : Rows.RingTakesSaid :=
  OpenClaim.holds_of_wide 6 Try.f6 rfl rfl rfl rfl rfl rfl rfl ⟨rfl, rfl, rfl, rfl, rfl⟩ rfl rfl rfl rfl rfl (by kernel_rfl) Try.func6 (by kernel_rfl)
    (of_decide_eq_true (by kernel_rfl)) (by unfold Func.isWrapper; first | (rw [if_pos (by decide +kernel)]; kernel_rfl) | (rw [if_neg (by decide +kernel)]; exact ⟨rfl, rfl⟩))
    (fun os started H enc _ => lifted os started H enc)

end Go.Proofs.Ytmefmhjebodjgaa.ringTakes
