/-
  PlanSays: for every slice of bytes and every slice of ints the law answers true, and they read afterwards as they read before. No condition.
-/
import Derived.Test.YtbpjogimobmkoaaPlanKit
import Derived.Test.YtbpjogimobmkoaaPlanRef
import Derived.Deep.RegionHeld
namespace Go.Proofs.Ytbpjogimobmkoaa.planSays
open Go.ChangeShapes Go.WideShapes Go.ChangeAt Go.RowKit Go.Proofs.Ytbpjogimobmkoaa.PlanPkg
set_option maxRecDepth 4000

set_option maxHeartbeats 2000000 in
theorem walk (A : Option Addr) (n c : Nat) (xs : List UInt8) (A' : Option Addr) (n' c' : Nat) (zs : List Int) (w : World) (hnc : n ≤ c) (hcm : c ≤ maxLen) (hr : Bytes w w.heap.size A n xs) (hnc' : n' ≤ c') (hcm' : c' ≤ maxLen) (hr' : Nums w w.heap.size A' n' zs) :
    Calls Try.prog 3 #[.slice A n c, .slice A' n' c'] w fun e w' => e = .returned (.bool true) ∧ Below w.heap.size w w' := by
  have HR := Lib.hid hr
  have HR' := Lib.hid hr'
  have hn := Nat.le_trans hnc hcm
  have hn' := Nat.le_trans hnc' hcm'
  clear hr hr'
  unfold maxLen at hn hcm hn' hcm'
  go_enter Try.func3, Try.ntmps3
  go_wp2_with fail
  refine (awake_any _).mono ?_
  rintro e w1 ⟨rfl, hb⟩
  have HB := Lib.hid hb
  clear hb
  by_cases hl : 2000 < n
  · go_wp2
    go_ret
    exact ⟨rfl, HB.out⟩
  go_wp2_with fail
  refine (New_any A n c w.heap.size xs w1 (by omega) (bytes_keep HR.out HB.out) HB.out.size).mono ?_
  rintro e w2 ⟨gp, rfl, hgp, hp, hb⟩
  have hlo1 : w.heap.size ≤ w1.heap.size := HB.out.size
  generalize w1.heap.size = lo1 at hgp hp hlo1 hb
  have hp5 := hp.lt
  have HP := Lib.hid hp
  replace HB := Lib.hid (HB.out.trans (hb.mono hlo1))
  clear hp hb
  go_wp2_with fail
  refine (refNew_any A n c w.heap.size xs w2 (by omega) (bytes_keep HR.out HB.out) HB.out.size).mono ?_
  rintro e w3 ⟨gq, rfl, hgq, hq, hb⟩
  have hlo2 : w.heap.size ≤ w2.heap.size := HB.out.size
  replace HP := Lib.hid (HP.out.below hb hgp)
  replace HB := Lib.hid (below_on HB.out hb HB.out.size)
  have HQ := Lib.hid hq
  clear hq hb
  generalize w2.heap.size = lo2 at hgq HQ hlo2 hp5
  go_wp2
  go_loopw [8] (fun i wr => ∃ k : Nat, k ≤ n' ∧ k ≤ 300 ∧ i = .int .i64 k ∧ At wr lo1 gp (xs.drop k) k ∧ RefAt wr lo2 gq xs k ∧ Below w.heap.size w wr) (fun i _ => n' - (intOf i).toNat)
  case atStart => exact ⟨0, by omega, by omega, rfl, HP.out, HQ.out, HB.out⟩
  case round =>
    obtain ⟨k, hk, hk3, rfl, hp, hq, hb⟩ := hrel
    clear HP HQ HB
    have HP := Lib.hid hp
    have HQ := Lib.hid hq
    have HB := Lib.hid hb
    clear hp hq hb
    by_cases hlt : k < n'
    · by_cases hlt3 : k < 300
      · obtain ⟨b, off, z, rfl, hbl, _, hcw, _, _⟩ := HR'.out.at_ hlt
        have HC := Lib.hid hcw
        clear hcw
        have hc := (HB.out.cell (p := ⟨b, off + k, none⟩) hbl).trans HC.out
        go_wp2_with fail
        refine (Next_any lo1 gp (xs.drop k) k z _ HP.out (by omega) (by omega)).mono ?_
        rintro e w6 ⟨rfl, hp, hgr⟩
        rw [List.tail_drop] at hp
        replace HQ := Lib.hid (HQ.out.grown hgr hgq (by omega))
        replace HB := Lib.hid (below_of_grown HB.out hgr HB.out.size (by omega))
        replace HP := Lib.hid hp
        clear hp hgr hc
        have hc := (HB.out.cell (p := ⟨b, off + k, none⟩) hbl).trans HC.out
        go_wp2_with fail
        refine (refNext_any lo2 gq xs k z _ HQ.out (by omega)).mono ?_
        rintro e w7 ⟨rfl, hq, hgr⟩
        replace HP := Lib.hid (HP.out.grown hgr hgp (by omega))
        replace HB := Lib.hid (below_of_grown HB.out hgr HB.out.size (by omega))
        replace HQ := Lib.hid hq
        clear hq hgr hc
        generalize Plan.says (xs.drop k) = a
        generalize Plan.many (xs.drop k) z = d
        have hln : (xs.drop (k + 1)).length ≤ 100000000000000 := by rw [List.length_drop, HR.out.1]; omega
        have HPd := Lib.hid (show At w7.drew lo1 gp (xs.drop (k + 1)) _ from HP.out)
        have HQd := Lib.hid (show RefAt w7.drew lo2 gq xs ((k + 1 : Nat) : Int) from HQ.out)
        have hle : w.heap.size ≤ w7.drew.heap.size := HB.out.size
        have HBd : Hid (Below w.heap.size w w7.drew) := Lib.hid HB.out.drew
        have hqlt := HQd.out.lt
        have HS : Hid (w7.drew.cell? ⟨gq, 1, none⟩ = some (.int .i64 ((k : Int) + 1))) := by
          obtain ⟨A9, n9, c9, h9, _⟩ := HQ.out
          exact (cells2_1 h9).1
        have HY := Lib.hid (fun w4 (hb4 : Below w7.drew.heap.size w7.drew w4) => refRest_any lo2 gq xs (k + 1) w4 (HQd.out.below hb4 hgq) (by omega))
        clear HP HQ HB
        generalize hts : xs.drop (k + 1) = ts at HPd HY hln
        have HT := Lib.hid hts
        clear hts
        have hq1 := str_eq (rfl : ts = ts)
        go_wp2
        go_region_held (fun x : World => x.cell? ⟨gq, 1, none⟩ = some (.int .i64 ((k : Int) + 1))) (first | exact HS.out | exact HS4.out | exact HS5.out) (first
          | (go_at_call 12; refine (Many_any lo1 gp ts _ _ HPd.out).mono ?_; rintro e w3 ⟨rfl, hw⟩; subst w3)
          | (go_at_call 13; refine (Rest_any lo1 gp ts _ _ HPd.out hln).mono ?_; rintro e w4 ⟨v4, rfl, ho4, hb4⟩; obtain ⟨A4, c4, rfl, hr4⟩ := ho4.reads; have hs1 := run_str (P := Try.prog) w4 22 9 5 Try.underlying22 Try.underlying5 Try.underlying9 (c := c4) hr4; have HS4 := Lib.hid ((hb4.cell (p := ⟨gq, 1, none⟩) hqlt).trans HS.out); have HR4 := Lib.hid hr4; have HB4 := Lib.hid hb4; clear ho4 hr4 hb4)
          | (go_at_call 14; refine (HY.out w4 HB4.out).mono ?_; rintro e w5 ⟨A5, n5, c5, rfl, hr5, hb5⟩; have hs2 := run_str (P := Try.prog) w5 22 9 5 Try.underlying22 Try.underlying5 Try.underlying9 (c := c5) hr5; have hs3 := run_str (P := Try.prog) w5 22 9 5 Try.underlying22 Try.underlying5 Try.underlying9 (c := c4) (bytes_keep HR4.out hb5); have HS5 := Lib.hid ((hb5.cell (p := ⟨gq, 1, none⟩) (Nat.lt_of_lt_of_le hqlt HB4.out.size)).trans HS4.out); have HB5 := Lib.hid hb5; clear hr5 hb5))
        all_goals
          clear hs1 hs2 hs3
          go_wp2
          go_roundw
          case rel =>
            have hb5 := HBd.out.trans ((HB4.out.mono hle).trans (HB5.out.mono (Nat.le_trans hle HB4.out.size)))
            exact ⟨k + 1, by omega, by omega, by go_num, by rw [HT.out]; exact (HPd.out.below HB4.out hgp).below HB5.out hgp, (HQd.out.below HB4.out hgq).below HB5.out hgq, hb5⟩
          case measure => simp [intOf]; omega
      · go_wp2
        go_ret
        exact ⟨rfl, HB.out⟩
    · go_wp2
      go_ret
      exact ⟨rfl, HB.out⟩

theorem own : ownKnob Try.prog.godebug = none := by kernel_rfl
theorem laid : laidOutB Try.prog = true := by kernel_rfl
theorem one8 : Try.prog.cellsOf 5 = 1 := by kernel_rfl
theorem one64 : Try.prog.cellsOf 3 = 1 := by kernel_rfl

set_option maxRecDepth 100000 in
theorem lifted (os : Os) (started : os.Started) (H : Type) (enc : TypeId × Value → H) :
    ReturnsInHanded {} Try.checked os 3 .any (Rows.planSaysSpec.pre6 enc Try.prog Try.f3 Rows.planSaysRow.domain false) (Rows.planSaysSpec.post enc Try.prog Try.f3 false true false false) := by
  refine returnsInHanded_of_change (C := Try.checked) own started (by kernel_rfl) Try.func3
    (ChangeSpec.witness6 (enc := enc) (C := Try.checked) false ⟨#[], #[.slice none 0 0, .slice none 0 0], []⟩ 8 (by kernel_rfl) (by kernel_rfl) (by kernel_rfl) (by kernel_rfl)) ?_
  intro W base args ds gs before hval0 hW _ _
  have hval : ∀ (j : Nat) t v, Try.f3.params[j]? = some t → args[j]? = some v → Value.okWide Try.prog W .any base t v := hval0
  have hW' := hW
  obtain ⟨p, q, hA0, hV, rfl, hfz, hnd⟩ := hW
  have hA : DataW.TrodAll enc Try.prog W 0 (fun _ => true) true Try.f3.params.toList args.toList ds p := hA0
  rw [Try.params3] at hA hval
  obtain ⟨v0, v1, d0, d1, p0, p1, rfl, rfl, rfl, h0, h1⟩ := trodAll_two hA
  obtain ⟨A0, n0, c0, xs0, rfl, hnc0, hcm0, hr0⟩ := open_bytes Try.underlying22 Try.underlying5 one8 (hval 0 22 v0 rfl rfl) h0
  obtain ⟨A1, n1, c1, zs1, rfl, hnc1, hcm1, hr1⟩ := open_nums Try.underlying23 Try.underlying3 one64 (hval 1 23 v1 rfl rfl) h1
  refine (walk A0 n0 c0 xs0 A1 n1 c1 zs1 W hnc0 hcm0 hr0 hnc1 hcm1 hr1).mono fun e W' ⟨he, hb⟩ => ?_
  subst he
  exact ⟨_, rfl, Law.post laid (by kernel_rfl) (by kernel_rfl) Try.underlying4 rfl hW' rfl hb⟩

theorem proved : Rows.PlanSaysSaid :=
  OpenClaim.holds_of_wide 3 Try.f3 rfl rfl rfl rfl rfl rfl rfl ⟨rfl, rfl, rfl, rfl, rfl⟩ rfl rfl rfl rfl rfl (by kernel_rfl) Try.func3 (by kernel_rfl)
    (of_decide_eq_true (by kernel_rfl)) (by unfold Func.isWrapper; first | (rw [if_pos (by decide +kernel)]; kernel_rfl) | (rw [if_neg (by decide +kernel)]; exact ⟨rfl, rfl⟩))
    (fun os started H enc _ => lifted os started H enc)

end Go.Proofs.Ytbpjogimobmkoaa.planSays
