/-
  PlanRests: for every slice of bytes, every int and every slice of ints the law answers true, and the slices read afterwards as they read before. No condition.
-/
import Derived.Test.YtbpjogimobmkoaaPlanKit
import Derived.Deep.RegionHeld
namespace Go.Proofs.Ytbpjogimobmkoaa.planRests
open Go.ChangeShapes Go.WideShapes Go.ChangeAt Go.RowKit Go.Proofs.Ytbpjogimobmkoaa.PlanPkg
set_option maxRecDepth 4000

set_option maxHeartbeats 2000000 in
theorem walk (A : Option Addr) (n c : Nat) (xs : List UInt8) (many : Int) (A' : Option Addr) (n' c' : Nat) (zs : List Int) (w : World) (hnc : n ≤ c) (hcm : c ≤ maxLen) (hr : Bytes w w.heap.size A n xs) (h0 : -9223372036854775808 ≤ many) (h1 : many ≤ 9223372036854775807) (hnc' : n' ≤ c') (hcm' : c' ≤ maxLen) (hr' : Nums w w.heap.size A' n' zs) :
    Calls Try.prog 4 #[.slice A n c, .int .i64 many, .slice A' n' c'] w fun e w' => e = .returned (.bool true) ∧ Below w.heap.size w w' := by
  have HR := Lib.hid hr
  have HR' := Lib.hid hr'
  have hn := Nat.le_trans hnc hcm
  have hn' := Nat.le_trans hnc' hcm'
  clear hr hr'
  unfold maxLen at hn hcm hn' hcm'
  go_enter Try.func4, Try.ntmps4
  go_wp2_with fail
  refine (awake_any _).mono ?_
  rintro e w1 ⟨rfl, hb⟩
  have HB := Lib.hid hb
  clear hb
  by_cases hl : 2000 < n
  · go_wp2
    go_ret
    exact ⟨rfl, HB.out⟩
  by_cases hm : many < 0
  · go_wp2
    go_ret
    exact ⟨rfl, HB.out⟩
  by_cases hm2 : 2000 < many
  · go_wp2
    go_ret
    exact ⟨rfl, HB.out⟩
  obtain ⟨M, rfl⟩ := Int.eq_ofNat_of_zero_le (show 0 ≤ many by omega)
  have hM : M ≤ 2000 := by omega
  clear h0 h1 hm hm2
  go_wp2_with fail
  refine (New_any A n c w.heap.size xs w1 (by omega) (bytes_keep HR.out HB.out) HB.out.size).mono ?_
  rintro e w2 ⟨gp, rfl, hgp, hp, hb⟩
  have hlo1 : w.heap.size ≤ w1.heap.size := HB.out.size
  generalize w1.heap.size = lo1 at hgp hp hlo1 hb
  have HP := Lib.hid hp
  replace HB := Lib.hid (HB.out.trans (hb.mono hlo1))
  clear hp hb
  go_wp2
  go_loopw [9] (fun i wr => ∃ k : Nat, k ≤ M ∧ i = .int .i64 k ∧ At wr lo1 gp (xs.drop k) k ∧ Below w.heap.size w wr) (fun i _ => M - (intOf i).toNat)
  case atStart => exact ⟨0, by omega, rfl, HP.out, HB.out⟩
  case round =>
    obtain ⟨k, hk, rfl, hp, hb⟩ := hrel
    clear HP HB
    have HP := Lib.hid hp
    have HB := Lib.hid hb
    clear hp hb
    by_cases hlt : k < M
    · go_wp2_with fail
      refine (Next_any lo1 gp (xs.drop k) k 1 wr HP.out (by omega) (by omega)).mono ?_
      rintro e w3 ⟨rfl, hp, hgr⟩
      rw [List.tail_drop] at hp
      replace HB := Lib.hid (below_of_grown HB.out hgr HB.out.size (Nat.le_trans hlo1 hgp))
      replace HP := Lib.hid hp
      clear hp hgr
      go_wp2
      go_roundw
      case rel => exact ⟨k + 1, by omega, by go_num, HP.out, HB.out⟩
      case measure => simp [intOf]; omega
    · have hln : (xs.drop k).length ≤ 2000 := by rw [List.length_drop, HR.out.1]; omega
      generalize xs.drop k = ts at HP hln
      go_wp2_with fail
      refine (Rest_any lo1 gp ts k _ HP.out (by omega)).mono ?_
      rintro e w4 ⟨v4, rfl, ho4, hb⟩
      obtain ⟨A4, c4, rfl, hr4⟩ := ho4.reads
      have hp4 := HP.out.lt
      replace HP := Lib.hid (HP.out.below hb hgp)
      replace HB := Lib.hid (below_on HB.out hb HB.out.size)
      have hp5 : gp < w4.heap.size := HP.out.lt
      have HR4 := Lib.hid hr4
      clear ho4 hb hr4 hp4
      go_wp2_with fail
      refine (New_any A4 ts.length c4 w4.heap.size ts w4 (by omega) HR4.out (Nat.le_refl _)).mono ?_
      rintro e w5 ⟨gq, rfl, hgq, hq, hb⟩
      have hlo2 : w.heap.size ≤ w4.heap.size := HB.out.size
      replace HP := Lib.hid (HP.out.below hb hgp)
      replace HB := Lib.hid (below_on HB.out hb HB.out.size)
      have HQ := Lib.hid hq
      clear hq hb HR4
      generalize w4.heap.size = lo2 at hgq HQ hlo2 hp5
      go_wp2
      go_loopw [11] (fun i wr => ∃ j : Nat, j ≤ n' ∧ j ≤ 300 ∧ i = .int .i64 j ∧ ∃ us : List UInt8, us.length ≤ 2000 ∧ At wr lo1 gp us ((k : Int) + (j : Int)) ∧ At wr lo2 gq us j ∧ Below w.heap.size w wr) (fun i _ => n' - (intOf i).toNat)
      case atStart => exact ⟨0, by omega, by omega, rfl, ts, hln, by simpa using HP.out, HQ.out, HB.out⟩
      case round =>
        obtain ⟨j, hj, hj3, rfl, us, hus, hp, hq, hb⟩ := hrel
        clear HP HQ HB
        have HP := Lib.hid hp
        have HQ := Lib.hid hq
        have HB := Lib.hid hb
        clear hp hq hb
        by_cases hgo : j < n' ∧ j < 300
        · obtain ⟨hlt2, hlt3⟩ := hgo
          obtain ⟨b, off, z, rfl, hbl, _, hcw, _, _⟩ := HR'.out.at_ hlt2
          have HC := Lib.hid hcw
          clear hcw
          have hc := (HB.out.cell (p := ⟨b, off + j, none⟩) hbl).trans HC.out
          go_wp2_with fail
          refine (Next_any lo1 gp us _ z _ HP.out (by omega) (by omega)).mono ?_
          rintro e w6 ⟨rfl, hp, hgr⟩
          replace HQ := Lib.hid (HQ.out.grown hgr hgq (by omega))
          replace HB := Lib.hid (below_of_grown HB.out hgr HB.out.size (by omega))
          replace HP := Lib.hid hp
          clear hp hgr hc
          have hc := (HB.out.cell (p := ⟨b, off + j, none⟩) hbl).trans HC.out
          go_wp2_with fail
          refine (Next_any lo2 gq us _ z _ HQ.out (by omega) (by omega)).mono ?_
          rintro e w7 ⟨rfl, hq, hgr⟩
          replace HP := Lib.hid (HP.out.grown hgr hgp (by omega))
          replace HB := Lib.hid (below_of_grown HB.out hgr HB.out.size (by omega))
          replace HQ := Lib.hid hq
          clear hq hgr hc
          generalize Plan.says us = a
          generalize Plan.many us z = d
          go_wp2
          go_roundw
          case rel => exact ⟨j + 1, by omega, by omega, by go_num, us.tail, by rw [List.length_tail]; omega, by have h := HP.out; rw [Int.natCast_add, ← Int.add_assoc]; exact h, HQ.out, HB.out⟩
          case measure => simp [intOf]; omega
        · have hln2 : us.length ≤ 100000000000000 := by omega
          have HPd := Lib.hid (show At wr.drew lo1 gp us _ from HP.out)
          have HQd := Lib.hid (show At wr.drew lo2 gq us _ from HQ.out)
          have hle : w.heap.size ≤ wr.drew.heap.size := HB.out.size
          have HBd : Hid (Below w.heap.size w wr.drew) := Lib.hid HB.out.drew
          clear HP HQ HB hj hj3 hus
          have hq1 := str_eq (rfl : us = us)
          by_cases hlt2 : j < n'
          · have hlt3 : ¬ j < 300 := fun h => hgo ⟨hlt2, h⟩
            clear hgo
            go_wp2
            go_region_held (fun _ => True) (trivial) (first
              | (go_at_call 13; refine (Rest_any lo1 gp us _ _ HPd.out hln2).mono ?_; rintro e w4 ⟨v4, rfl, ho4, hb4⟩; obtain ⟨A4, c4, rfl, hr4⟩ := ho4.reads; have hs1 := run_str (P := Try.prog) w4 22 9 5 Try.underlying22 Try.underlying5 Try.underlying9 (c := c4) hr4; have HR4 := Lib.hid hr4; have HB4 := Lib.hid hb4; clear ho4 hr4 hb4)
              | (go_at_call 13; refine (Rest_any lo2 gq us _ w4 (HQd.out.below HB4.out hgq) hln2).mono ?_; rintro e w5 ⟨v5, rfl, ho5, hb5⟩; obtain ⟨A5, c5, rfl, hr5⟩ := ho5.reads; have hs2 := run_str (P := Try.prog) w5 22 9 5 Try.underlying22 Try.underlying5 Try.underlying9 (c := c5) hr5; have hs3 := run_str (P := Try.prog) w5 22 9 5 Try.underlying22 Try.underlying5 Try.underlying9 (c := c4) (bytes_keep HR4.out hb5); have HB5 := Lib.hid hb5; clear ho5 hr5 hb5))
            all_goals
              clear hs1 hs2 hs3
              go_wp2
              go_ret
              exact ⟨by simp, HBd.out.trans ((HB4.out.mono hle).trans (HB5.out.mono (Nat.le_trans hle HB4.out.size)))⟩
          · clear hgo
            go_wp2
            go_region_held (fun _ => True) (trivial) (first
              | (go_at_call 13; refine (Rest_any lo1 gp us _ _ HPd.out hln2).mono ?_; rintro e w4 ⟨v4, rfl, ho4, hb4⟩; obtain ⟨A4, c4, rfl, hr4⟩ := ho4.reads; have hs1 := run_str (P := Try.prog) w4 22 9 5 Try.underlying22 Try.underlying5 Try.underlying9 (c := c4) hr4; have HR4 := Lib.hid hr4; have HB4 := Lib.hid hb4; clear ho4 hr4 hb4)
              | (go_at_call 13; refine (Rest_any lo2 gq us _ w4 (HQd.out.below HB4.out hgq) hln2).mono ?_; rintro e w5 ⟨v5, rfl, ho5, hb5⟩; obtain ⟨A5, c5, rfl, hr5⟩ := ho5.reads; have hs2 := run_str (P := Try.prog) w5 22 9 5 Try.underlying22 Try.underlying5 Try.underlying9 (c := c5) hr5; have hs3 := run_str (P := Try.prog) w5 22 9 5 Try.underlying22 Try.underlying5 Try.underlying9 (c := c4) (bytes_keep HR4.out hb5); have HB5 := Lib.hid hb5; clear ho5 hr5 hb5))
            all_goals
              clear hs1 hs2 hs3
              go_wp2
              go_ret
              exact ⟨by simp, HBd.out.trans ((HB4.out.mono hle).trans (HB5.out.mono (Nat.le_trans hle HB4.out.size)))⟩

theorem own : ownKnob Try.prog.godebug = none := by kernel_rfl
theorem laid : laidOutB Try.prog = true := by kernel_rfl
theorem one8 : Try.prog.cellsOf 5 = 1 := by kernel_rfl
theorem one64 : Try.prog.cellsOf 3 = 1 := by kernel_rfl

set_option maxRecDepth 100000 in
theorem lifted (os : Os) (started : os.Started) (H : Type) (enc : TypeId × Value → H) :
    ReturnsInHanded {} Try.checked os 4 .any (Rows.planRestsSpec.pre6 enc Try.prog Try.f4 Rows.planRestsRow.domain false) (Rows.planRestsSpec.post enc Try.prog Try.f4 false true false false) := by
  refine returnsInHanded_of_change (C := Try.checked) own started (by kernel_rfl) Try.func4
    (ChangeSpec.witness6 (enc := enc) (C := Try.checked) false ⟨#[], #[.slice none 0 0, .int .i64 0, .slice none 0 0], []⟩ 8 (by kernel_rfl) (by kernel_rfl) (by kernel_rfl) (by kernel_rfl)) ?_
  intro W base args ds gs before hval0 hW _ _
  have hval : ∀ (j : Nat) t v, Try.f4.params[j]? = some t → args[j]? = some v → Value.okWide Try.prog W .any base t v := hval0
  have hW' := hW
  obtain ⟨p, q, hA0, hV, rfl, hfz, hnd⟩ := hW
  have hA : DataW.TrodAll enc Try.prog W 0 (fun _ => true) true Try.f4.params.toList args.toList ds p := hA0
  rw [Try.params4] at hA hval
  obtain ⟨v0, v1, v2, d0, d1, d2, p0, p1, p2, rfl, rfl, rfl, h0, h1, h2⟩ := trodAll_three hA
  obtain ⟨A0, n0, c0, xs0, rfl, hnc0, hcm0, hr0⟩ := open_bytes Try.underlying22 Try.underlying5 one8 (hval 0 22 v0 rfl rfl) h0
  obtain ⟨a1, rfl, rfl, rfl, wf1⟩ := open_int Try.underlying3 (hval 1 3 v1 rfl rfl) h1
  have hb1 : -9223372036854775808 ≤ a1 ∧ a1 ≤ 9223372036854775807 := by simpa [Lit.wf, IntKind.min, IntKind.max, IntKind.signed, IntKind.bits] using wf1
  obtain ⟨A2, n2, c2, zs2, rfl, hnc2, hcm2, hr2⟩ := open_nums Try.underlying23 Try.underlying3 one64 (hval 2 23 v2 rfl rfl) h2
  refine (walk A0 n0 c0 xs0 a1 A2 n2 c2 zs2 W hnc0 hcm0 hr0 hb1.1 hb1.2 hnc2 hcm2 hr2).mono fun e W' ⟨he, hb⟩ => ?_
  subst he
  exact ⟨_, rfl, Law.post laid (by kernel_rfl) (by kernel_rfl) Try.underlying4 rfl hW' rfl hb⟩

theorem proved : Rows.PlanRestsSaid :=
  OpenClaim.holds_of_wide 4 Try.f4 rfl rfl rfl rfl rfl rfl rfl ⟨rfl, rfl, rfl, rfl, rfl⟩ rfl rfl rfl rfl rfl (by kernel_rfl) Try.func4 (by kernel_rfl)
    (of_decide_eq_true (by kernel_rfl)) (by unfold Func.isWrapper; first | (rw [if_pos (by decide +kernel)]; kernel_rfl) | (rw [if_neg (by decide +kernel)]; exact ⟨rfl, rfl⟩))
    (fun os started H enc _ => lifted os started H enc)

end Go.Proofs.Ytbpjogimobmkoaa.planRests
