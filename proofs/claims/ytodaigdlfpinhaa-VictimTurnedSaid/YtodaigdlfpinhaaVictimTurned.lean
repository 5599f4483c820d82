/-
  VictimTurned holds: what is picked is as good in whatever order lines stand; for whatever came in. No condition.
-/
import Derived.Test.YtodaigdlfpinhaaVictimKit
import Derived.Test.YtodaigdlfpinhaaVictimOps
import Derived.Test.YtodaigdlfpinhaaLawKit
import Derived.OpenShut
import Derived.Test.YtodaigdlfpinhaaVictimKit2
import Derived.Deep.DeepCutAuto
import Derived.Deep.RegionHeld3
import Derived.Deep.QuietTactic
import Derived.Test.YtodaigdlfpinhaaHeld
namespace Go.Proofs.Ytodaigdlfpinhaa.victimTurned
open Go.RowKit Go.ChangeShapes Go.WideShapes Victim VictimPkg VictimLaw Lib
set_option maxRecDepth 4000

set_option maxHeartbeats 8000000 in
theorem walk (A : Option Addr) (n c : Nat) (f : Nat → Ln) (tn : Int) (w : World) (hnc : n ≤ c) (hcm : c ≤ maxLen) (hr : Lines w w.heap.size A n f) (_ : -9223372036854775808 ≤ tn) (ht1 : tn ≤ 9223372036854775807) :
    Calls Try.prog 7 #[.slice A n c, .int .i64 tn] w fun e w' => e = .returned (.bool true) ∧ Below w.heap.size w w' := by
  have hnm := Nat.le_trans hnc hcm
  unfold maxLen at hnm
  have hcn := hnc
  clear hnc hcm
  have HA := Lib.hid (awake_any w)
  by_cases hbig : 300 < n
  · have hbig' : (300 : Int) < n := by omega
    clear hr
    go_enter Try.func7, Try.ntmps7
    go_wp2_with fail
    refine HA.out.mono ?_
    rintro e w1 ⟨rfl, hb⟩
    have HB := Lib.hid hb
    clear hb
    go_wp2
    go_ret
    exact ⟨rfl, HB.out⟩
  have hn : n ≤ 300 := by omega
  have hn' : (n : Int) ≤ 300 := by omega
  have hnb : decide ((300 : Int) < (n : Int)) = false := decide_eq_false (by omega)
  by_cases hz : n = 0
  · subst hz
    clear hr hbig
    go_enter Try.func7, Try.ntmps7
    go_wp2_with fail
    refine HA.out.mono ?_
    rintro e w1 ⟨rfl, hb⟩
    have HB := Lib.hid hb
    clear hb
    go_wp2
    go_ret
    exact ⟨rfl, HB.out⟩
  have hz1 : ((n : Int) == 0) = false := by simpa using hz
  by_cases hneg : tn < 0
  · clear hr hbig
    go_enter Try.func7, Try.ntmps7
    go_wp2_with fail
    refine HA.out.mono ?_
    rintro e w1 ⟨rfl, hb⟩
    have HB := Lib.hid hb
    clear hb
    go_wp2
    go_ret
    exact ⟨rfl, HB.out⟩
  have hneg1 : decide (tn < 0) = false := decide_eq_false hneg
  obtain ⟨b, off, rfl, hb0, _⟩ := hr.form (show 0 < n by omega)
  obtain ⟨k, hk⟩ : ∃ k : Nat, (k : Int) = tn % (n : Int) := ⟨(tn % (n : Int)).toNat, Int.toNat_of_nonneg (Int.emod_nonneg _ (by omega))⟩
  have hkn : k < n := by have := Int.emod_lt_of_pos tn (show (0 : Int) < n by omega); omega
  have hkm : tn.tmod (n : Int) = (k : Int) := by rw [Int.tmod_eq_emod_of_nonneg (by omega), hk]
  have HR := Lib.hid hr
  have mixed : Try.prog.follows .mixedOrders = true := by kernel_rfl
  have hkn' : (k : Int) < n := by omega
  have hkle : k ≤ n := by omega
  have hkc : k ≤ c := by omega
  have hck : ¬ c = k := by omega
  have hc0 : ¬ c = 0 := by omega
  have hnz : ¬ (n : Int) = 0 := by omega
  have HNC := Lib.hid hcn
  clear hr hbig hk hneg hz ht1 hb0
  go_enter Try.func7, Try.ntmps7
  go_wp2_with fail
  refine HA.out.mono ?_
  rintro e w1 ⟨rfl, hb⟩
  have HB := Lib.hid hb
  clear hb
  rename World => w2
  have HROWS := Lib.hid (HR.out.keep HB.out)
  have HFROM := Lib.hid ((rows_from HROWS.out k).more HB.out.size)
  have HTO := Lib.hid ((rows_to HROWS.out (Nat.le_of_lt hkn)).more HB.out.size)
  have HLE : Hid (([] : List (List Value)).length + (n - k) ≤ 1000000) := Lib.hid (by simp; omega)
  have HLE2 : Hid (([] ++ lrows (fun i => f (k + i)) (n - k) : List (List Value)).length + k ≤ 1000000) := Lib.hid (by simp [lrows_len]; omega)
  go_upto_region 5 with fail
  go_cut [7] (fun v wx => ∃ (A3 : Option Addr) (c3 : Nat), v = .slice A3 n c3 ∧ Lines wx wx.heap.size A3 n (turn f n k) ∧ Below w2.heap.size w2 wx)
  case first =>
    go_region_held3 (fun _ => True)
      (trivial)
      (first
        | (refine step_append_rows _ (o := ⟨some 34, _, _, _, _, _⟩) (by rfl) _ _ _ (by rfl) w2.heap.size 33 5 40 (by omega) (by omega) Try.underlying22 infoLine (.slice (some ⟨w2.heap.size, 0, none⟩) 0 0) [] (by rfl) (by exact (ownR_new0 w2 _ _).keep (fun _ _ => rfl)) _ (some ⟨b, off + k * 5, none⟩) (n - k) (c - k) (lrows (fun i => f (k + i)) (n - k)) (by rfl) (by exact HFROM.out.keep (((Below.refl _ _).alloc (Nat.le_refl _) _).drew)) HLE.out (by simp) ?_; intro v3 w3 ho2 hg2; have hB2 : Below w2.heap.size w2 w3 := (((Below.refl _ w2).alloc (Nat.le_refl _) _).drew).grown hg2 (by simp) (fun k hk => by simp [Value.ownBlock] at hk; omega); have hz2 := hB2.size; clear hg2)
        | (refine step_append_rows _ (o := ⟨some 38, _, _, _, _, _⟩) (by rfl) _ _ _ (by rfl) w2.heap.size 33 5 40 (by omega) (by omega) Try.underlying22 infoLine v3 ([] ++ lrows (fun i => f (k + i)) (n - k)) (by rfl) (by exact ho2) _ (some ⟨b, off, none⟩) k c (lrows f k) (by rfl) (by exact HTO.out.keep hB2) HLE2.out hz2 ?_; intro v4 w4 ho3 hg3; have hB3 : Below w2.heap.size w2 w4 := hB2.grown hg3 hz2 ho2.block; have hz3 := hB3.size; clear hg3))
    all_goals
      go_wp2_with fail
      go_meet
      rw [lrows_turn f (Nat.le_of_lt hkn)] at ho3
      obtain ⟨A3, c3, rfl, hl3⟩ := own_lines ho3
      exact ⟨A3, c3, rfl, hl3, hB3⟩
  case rest =>
    obtain ⟨A3, c3, rfl, hl3, hb3⟩ := hcut
    rename World => wd
    have HBD := Lib.hid (HB.out.trans (hb3.mono HB.out.size))
    obtain ⟨hrl, hbest⟩ := turned_best (f := f) (g := turn f n k) (n := n) (turn_perm f (Nat.le_of_lt hkn))
    have HP := Lib.hid (fun W (hW : Below w.heap.size w W) => Pick_any (HR.out.keep hW) hW.size (by omega) c)
    have HO := Lib.hid (fun W (hW : Below w.heap.size w W) => Order_any (HR.out.keep hW) hW.size (by omega) c)
    have HQ := Lib.hid (fun W (hW : Below wd.heap.size wd W) => Pick_any (hl3.keep hW) hW.size (by omega) c3)
    have HU := Lib.hid (fun W (hW : Below wd.heap.size wd W) => Order_any (hl3.keep hW) hW.size (by omega) c3)
    have HL3 := Lib.hid (fun W (hW : Below wd.heap.size wd W) => hl3.keep hW)
    have HWB := Lib.hid (fun W (hW : Below wd.heap.size wd W) => HBD.out.trans (hW.mono HBD.out.size))
    rw [hrl] at HU
    have hrn := rks_len f n
    generalize turn f n k = g at *
    generalize (rks f n).length = r at *
    have HD : Hid (Below wd.heap.size wd wd) := Lib.hid (Below.refl _ _)
    clear hl3 hb3 hrl HROWS HFROM HTO HLE HLE2 HB HBD hkn hkn' hkm hkle hkc hck hc0
    rcases hbest with ⟨p1, p2⟩ | ⟨i, j, hi, hj, p1, p2, hv, hw⟩
    · rw [p1] at HP
      rw [p2] at HQ
      clear p1 p2 HL3
      go_wp2_with fail
      refine (HP.out _ (HWB.out _ HD.out)).mono ?_
      rintro e v1 ⟨rfl, hb⟩
      replace HD := Lib.hid (below_then HD.out hb)
      clear hb HP
      go_wp2_with fail
      refine (HQ.out _ HD.out).mono ?_
      rintro e v2 ⟨rfl, hb⟩
      replace HD := Lib.hid (below_then HD.out hb)
      clear hb HQ
      go_upto_region 10 with fail
      refine wp_region_held_drew (S := (fun _ => True)) (by kernel_rfl) ?_ (fun hHeld => ?_)
      · trivial
      refine Hand.held_take (i := 0) (d := 75) (v := ?_) rfl rfl (by kernel_rfl) (by kernel_rfl) (by kernel_rfl) (by rfl) ?_ (by assumption) (fun _ _ _ h => h) ?_
      rotate_left
      · intro w hSw
        go_simp
        with_reducible rfl
      try simp only [Act.put, List.setIfInBounds_toArray, List.set_cons_zero, List.set_cons_succ]
      refine Hand.held_take (i := 1) (d := 76) (v := ?_) rfl rfl (by kernel_rfl) (by kernel_rfl) (by kernel_rfl) (by rfl) ?_ (by assumption) (fun _ _ _ h => h) ?_
      rotate_left
      · intro w hSw
        go_simp
        with_reducible rfl
      try simp only [Act.put, List.setIfInBounds_toArray, List.set_cons_zero, List.set_cons_succ]
      refine Hand.held_take (i := 2) (d := 77) (v := ?_) rfl rfl (by kernel_rfl) (by kernel_rfl) (by kernel_rfl) (by rfl) ?_ (by assumption) (fun _ _ _ h => h) ?_
      rotate_left
      · intro w hSw
        go_simp
        with_reducible rfl
      try simp only [Act.put, List.setIfInBounds_toArray, List.set_cons_zero, List.set_cons_succ]
      refine Hand.held_take (i := 3) (d := 78) (v := ?_) rfl rfl (by kernel_rfl) (by kernel_rfl) (by kernel_rfl) (by rfl) ?_ (by assumption) (fun _ _ _ h => h) ?_
      rotate_left
      · intro w hSw
        go_simp
        with_reducible rfl
      try simp only [Act.put, List.setIfInBounds_toArray, List.set_cons_zero, List.set_cons_succ]
      refine Hand.held_take (i := 4) (d := 79) (v := ?_) rfl rfl (by kernel_rfl) (by kernel_rfl) (by kernel_rfl) (by rfl) ?_ (by assumption) (fun _ _ _ h => h) ?_
      rotate_left
      · intro w hSw
        go_simp
        with_reducible rfl
      try simp only [Act.put, List.setIfInBounds_toArray, List.set_cons_zero, List.set_cons_succ]
      refine Hand.held_skip (i := 5) (d := 80) rfl rfl (by kernel_rfl) (by kernel_rfl) (by kernel_rfl) (by rfl) (by assumption) (fun _ _ _ h => h) ?_
      try simp only [Act.put, List.setIfInBounds_toArray, List.set_cons_zero, List.set_cons_succ]
      refine Hand.held_skip (i := 6) (d := 81) rfl rfl (by kernel_rfl) (by kernel_rfl) (by kernel_rfl) (by rfl) (by assumption) (fun _ _ _ h => h) ?_
      try simp only [Act.put, List.setIfInBounds_toArray, List.set_cons_zero, List.set_cons_succ]
      refine Hand.held_skip (i := 7) (d := 82) rfl rfl (by kernel_rfl) (by kernel_rfl) (by kernel_rfl) (by rfl) (by assumption) (fun _ _ _ h => h) ?_
      try simp only [Act.put, List.setIfInBounds_toArray, List.set_cons_zero, List.set_cons_succ]
      refine Hand.held_skip (i := 8) (d := 83) rfl rfl (by kernel_rfl) (by kernel_rfl) (by kernel_rfl) (by rfl) (by assumption) (fun _ _ _ h => h) ?_
      try simp only [Act.put, List.setIfInBounds_toArray, List.set_cons_zero, List.set_cons_succ]
      refine Hand.held_skip (i := 9) (d := 84) rfl rfl (by kernel_rfl) (by kernel_rfl) (by kernel_rfl) (by rfl) (by assumption) (fun _ _ _ h => h) ?_
      try simp only [Act.put, List.setIfInBounds_toArray, List.set_cons_zero, List.set_cons_succ]
      refine Hand.held_skip (i := 10) (d := 85) rfl rfl (by kernel_rfl) (by kernel_rfl) (by kernel_rfl) (by rfl) (by assumption) (fun _ _ _ h => h) ?_
      try simp only [Act.put, List.setIfInBounds_toArray, List.set_cons_zero, List.set_cons_succ]
      refine Hand.held_skip (i := 11) (d := 86) rfl rfl (by kernel_rfl) (by kernel_rfl) (by kernel_rfl) (by rfl) (by assumption) (fun _ _ _ h => h) ?_
      try simp only [Act.put, List.setIfInBounds_toArray, List.set_cons_zero, List.set_cons_succ]
      refine Hand.held_skip (i := 12) (d := 87) rfl rfl (by kernel_rfl) (by kernel_rfl) (by kernel_rfl) (by rfl) (by assumption) (fun _ _ _ h => h) ?_
      try simp only [Act.put, List.setIfInBounds_toArray, List.set_cons_zero, List.set_cons_succ]
      refine Hand.held_skip (i := 13) (d := 88) rfl rfl (by kernel_rfl) (by kernel_rfl) (by kernel_rfl) (by rfl) (by assumption) (fun _ _ _ h => h) ?_
      try simp only [Act.put, List.setIfInBounds_toArray, List.set_cons_zero, List.set_cons_succ]
      refine Hand.held_skip (i := 14) (d := 89) rfl rfl (by kernel_rfl) (by kernel_rfl) (by kernel_rfl) (by rfl) (by assumption) (fun _ _ _ h => h) ?_
      try simp only [Act.put, List.setIfInBounds_toArray, List.set_cons_zero, List.set_cons_succ]
      refine Hand.held_skip (i := 15) (d := 90) rfl rfl (by kernel_rfl) (by kernel_rfl) (by kernel_rfl) (by rfl) (by assumption) (fun _ _ _ h => h) ?_
      try simp only [Act.put, List.setIfInBounds_toArray, List.set_cons_zero, List.set_cons_succ]
      refine Hand.held_skip (i := 16) (d := 91) rfl rfl (by kernel_rfl) (by kernel_rfl) (by kernel_rfl) (by rfl) (by assumption) (fun _ _ _ h => h) ?_
      try simp only [Act.put, List.setIfInBounds_toArray, List.set_cons_zero, List.set_cons_succ]
      refine Hand.held_skip (i := 17) (d := 92) rfl rfl (by kernel_rfl) (by kernel_rfl) (by kernel_rfl) (by rfl) (by assumption) (fun _ _ _ h => h) ?_
      try simp only [Act.put, List.setIfInBounds_toArray, List.set_cons_zero, List.set_cons_succ]
      refine Hand.held_skip (i := 18) (d := 93) rfl rfl (by kernel_rfl) (by kernel_rfl) (by kernel_rfl) (by rfl) (by assumption) (fun _ _ _ h => h) ?_
      try simp only [Act.put, List.setIfInBounds_toArray, List.set_cons_zero, List.set_cons_succ]
      refine Hand.held_skip (i := 19) (d := 94) rfl rfl (by kernel_rfl) (by kernel_rfl) (by kernel_rfl) (by rfl) (by assumption) (fun _ _ _ h => h) ?_
      try simp only [Act.put, List.setIfInBounds_toArray, List.set_cons_zero, List.set_cons_succ]
      refine Hand.held_skip (i := 20) (d := 95) rfl rfl (by kernel_rfl) (by kernel_rfl) (by kernel_rfl) (by rfl) (by assumption) (fun _ _ _ h => h) ?_
      try simp only [Act.put, List.setIfInBounds_toArray, List.set_cons_zero, List.set_cons_succ]
      refine Hand.held_skip (i := 21) (d := 96) rfl rfl (by kernel_rfl) (by kernel_rfl) (by kernel_rfl) (by rfl) (by assumption) (fun _ _ _ h => h) ?_
      try simp only [Act.put, List.setIfInBounds_toArray, List.set_cons_zero, List.set_cons_succ]
      refine Hand.held_skip (i := 22) (d := 97) rfl rfl (by kernel_rfl) (by kernel_rfl) (by kernel_rfl) (by rfl) (by assumption) (fun _ _ _ h => h) ?_
      try simp only [Act.put, List.setIfInBounds_toArray, List.set_cons_zero, List.set_cons_succ]
      refine Hand.held_skip (i := 23) (d := 98) rfl rfl (by kernel_rfl) (by kernel_rfl) (by kernel_rfl) (by rfl) (by assumption) (fun _ _ _ h => h) ?_
      try simp only [Act.put, List.setIfInBounds_toArray, List.set_cons_zero, List.set_cons_succ]
      refine Hand.held_skip (i := 24) (d := 99) rfl rfl (by kernel_rfl) (by kernel_rfl) (by kernel_rfl) (by rfl) (by assumption) (fun _ _ _ h => h) ?_
      try simp only [Act.put, List.setIfInBounds_toArray, List.set_cons_zero, List.set_cons_succ]
      refine Hand.held_skip (i := 25) (d := 100) rfl rfl (by kernel_rfl) (by kernel_rfl) (by kernel_rfl) (by rfl) (by assumption) (fun _ _ _ h => h) ?_
      try simp only [Act.put, List.setIfInBounds_toArray, List.set_cons_zero, List.set_cons_succ]
      refine Hand.held_skip (i := 26) (d := 101) rfl rfl (by kernel_rfl) (by kernel_rfl) (by kernel_rfl) (by rfl) (by assumption) (fun _ _ _ h => h) ?_
      try simp only [Act.put, List.setIfInBounds_toArray, List.set_cons_zero, List.set_cons_succ]
      refine Hand.held_skip (i := 27) (d := 102) rfl rfl (by kernel_rfl) (by kernel_rfl) (by kernel_rfl) (by rfl) (by assumption) (fun _ _ _ h => h) ?_
      try simp only [Act.put, List.setIfInBounds_toArray, List.set_cons_zero, List.set_cons_succ]
      refine Hand.held_skip (i := 28) (d := 103) rfl rfl (by kernel_rfl) (by kernel_rfl) (by kernel_rfl) (by rfl) (by assumption) (fun _ _ _ h => h) ?_
      try simp only [Act.put, List.setIfInBounds_toArray, List.set_cons_zero, List.set_cons_succ]
      refine Hand.held_take (i := 29) (d := 104) (v := ?_) rfl rfl (by kernel_rfl) (by kernel_rfl) (by kernel_rfl) (by rfl) ?_ (by assumption) (fun _ _ _ h => h) ?_
      rotate_left
      · intro w hSw
        go_simp
        with_reducible rfl
      try simp only [Act.put, List.setIfInBounds_toArray, List.set_cons_zero, List.set_cons_succ]
      refine Hand.held_take (i := 30) (d := 105) (v := ?_) rfl rfl (by kernel_rfl) (by kernel_rfl) (by kernel_rfl) (by rfl) ?_ (by assumption) (fun _ _ _ h => h) ?_
      rotate_left
      · intro w hSw
        go_simp
        with_reducible rfl
      try simp only [Act.put, List.setIfInBounds_toArray, List.set_cons_zero, List.set_cons_succ]
      refine Hand.held_take (i := 31) (d := 106) (v := ?_) rfl rfl (by kernel_rfl) (by kernel_rfl) (by kernel_rfl) (by rfl) ?_ (by assumption) (fun _ _ _ h => h) ?_
      rotate_left
      · intro w hSw
        go_simp
        with_reducible rfl
      try simp only [Act.put, List.setIfInBounds_toArray, List.set_cons_zero, List.set_cons_succ]
      refine Hand.held_take (i := 32) (d := 107) (v := ?_) rfl rfl (by kernel_rfl) (by kernel_rfl) (by kernel_rfl) (by rfl) ?_ (by assumption) (fun _ _ _ h => h) ?_
      rotate_left
      · intro w hSw
        go_simp
        with_reducible rfl
      try simp only [Act.put, List.setIfInBounds_toArray, List.set_cons_zero, List.set_cons_succ]
      refine Hand.held_take (i := 35) (d := 110) (v := ?_) rfl rfl (by kernel_rfl) (by kernel_rfl) (by kernel_rfl) (by rfl) ?_ (by assumption) (fun _ _ _ h => h) ?_
      rotate_left
      · intro w hSw
        go_simp
        with_reducible rfl
      try simp only [Act.put, List.setIfInBounds_toArray, List.set_cons_zero, List.set_cons_succ]
      refine wpAnyH_ready (rs := [33]) (by kernel_rfl) (by simp) ?_
      refine AllReadyH.cons rfl (fun K hK => ?_) AllReadyH.nil
      go_simp
      go_wp2_with (refine (HO.out _ (HWB.out _ (by exact below_dn HD.out 1))).mono ?_; rintro e v3 ⟨Q, m, rfl, rfl, _, _, hb⟩; have hB4 : Below wd.heap.size wd v3 := below_then (by exact below_dn HD.out 1) hb; clear hb HO)
      refine hK.out _ _ ?_ (fun hHeld => ?_)
      · trivial
      clear hK K
      refine Hand.held_take (i := 34) (d := 109) (v := ?_) rfl rfl (by kernel_rfl) (by kernel_rfl) (by kernel_rfl) (by rfl) ?_ (by assumption) (fun _ _ _ h => h) ?_
      rotate_left
      · intro w hSw
        go_simp
        with_reducible rfl
      try simp only [Act.put, List.setIfInBounds_toArray, List.set_cons_zero, List.set_cons_succ]
      refine wpAnyH_ready (rs := [36]) (by kernel_rfl) (by simp) ?_
      refine AllReadyH.cons rfl (fun K hK => ?_) AllReadyH.nil
      go_simp
      go_wp2_with (refine (HU.out _ (by exact hB4)).mono ?_; rintro e v4 ⟨Q', m', rfl, rfl, _, _, hb⟩; have hB5 := below_then hB4 hb; clear hb HU)
      refine hK.out _ _ ?_ (fun hHeld => ?_)
      · trivial
      clear hK K
      refine Hand.held_take (i := 37) (d := 112) (v := ?_) rfl rfl (by kernel_rfl) (by kernel_rfl) (by kernel_rfl) (by rfl) ?_ (by assumption) (fun _ _ _ h => h) ?_
      rotate_left
      · intro w hSw
        go_simp
        with_reducible rfl
      try simp only [Act.put, List.setIfInBounds_toArray, List.set_cons_zero, List.set_cons_succ]
      refine Hand.held_take (i := 38) (d := 113) (v := ?_) rfl rfl (by kernel_rfl) (by kernel_rfl) (by kernel_rfl) (by rfl) ?_ (by assumption) (fun _ _ _ h => h) ?_
      rotate_left
      · intro w hSw
        go_simp
        with_reducible rfl
      try simp only [Act.put, List.setIfInBounds_toArray, List.set_cons_zero, List.set_cons_succ]
      refine Hand.held_take (i := 39) (d := 114) (v := ?_) rfl rfl (by kernel_rfl) (by kernel_rfl) (by kernel_rfl) (by rfl) ?_ (by assumption) (fun _ _ _ h => h) ?_
      rotate_left
      · intro w hSw
        go_simp
        with_reducible rfl
      try simp only [Act.put, List.setIfInBounds_toArray, List.set_cons_zero, List.set_cons_succ]
      refine Hand.held_take (i := 40) (d := 4) (v := ?_) rfl rfl (by kernel_rfl) (by kernel_rfl) (by kernel_rfl) (by rfl) ?_ (by assumption) (fun _ _ _ h => h) ?_
      rotate_left
      · intro w hSw
        go_simp
        with_reducible rfl
      try simp only [Act.put, List.setIfInBounds_toArray, List.set_cons_zero, List.set_cons_succ]
      refine wpAnyH_done (by kernel_rfl) ?_ _
      go_wp2
      go_ret
      exact ⟨by first | rfl | simp, HWB.out _ hB5⟩
    · rw [p1] at HP
      rw [p2] at HQ
      have hi' : (i : Int) < n := by omega
      have hj' : (j : Int) < n := by omega
      have di0 : decide ((i : Int) < 0) = false := decide_eq_false (by omega)
      have di1 : decide (n ≤ i) = false := decide_eq_false (by omega)
      have dj0 : decide ((j : Int) < 0) = false := decide_eq_false (by omega)
      have dj1 : decide (n ≤ j) = false := decide_eq_false (by omega)
      clear p1 p2
      go_wp2_with fail
      refine (HP.out _ (HWB.out _ HD.out)).mono ?_
      rintro e v1 ⟨rfl, hb⟩
      replace HD := Lib.hid (below_then HD.out hb)
      clear hb HP
      go_wp2_with fail
      refine (HQ.out _ HD.out).mono ?_
      rintro e v2 ⟨rfl, hb⟩
      replace HD := Lib.hid (below_then HD.out hb)
      clear hb HQ
      obtain ⟨b', off', rfl, _, _⟩ := (HL3.out _ HD.out).form (show 0 < n by omega)
      obtain ⟨V, hV⟩ : ∃ V, V = (f i).vd := ⟨_, rfl⟩
      obtain ⟨W, hW⟩ : ∃ W, W = (f i).wr := ⟨_, rfl⟩
      have HS : Hid (∀ w', Below wd.heap.size wd w' → (w'.cell? ⟨b, off + i * 5 + 3, none⟩ = some (.int .i64 V) ∧ w'.cell? ⟨b, off + i * 5 + 1, none⟩ = some (.int .i64 W)) ∧ w'.cell? ⟨b', off' + j * 5 + 3, none⟩ = some (.int .i64 V) ∧ w'.cell? ⟨b', off' + j * 5 + 1, none⟩ = some (.int .i64 W)) := Lib.hid (fun w' hb => by
        obtain ⟨b1, o1, e1, _, h1⟩ := (HR.out.keep (HWB.out _ hb)) i hi
        obtain ⟨b2, o2, e2, _, h2⟩ := (HL3.out _ hb) j hj
        injection e1 with e1
        injection e1 with e3 e4
        injection e2 with e2
        injection e2 with e5 e6
        subst e3 e4 e5 e6
        rw [hV, hW]
        refine ⟨⟨h1.c3, h1.c1⟩, ?_, ?_⟩
        · rw [hv]; exact h2.c3
        · rw [hw]; exact h2.c1)
      clear hV hW hv hw
      go_upto_region 10 with fail
      refine wp_region_held_drew (S := (fun w' => (w'.cell? ⟨b, off + i * 5 + 3, none⟩ = some (.int .i64 V) ∧ w'.cell? ⟨b, off + i * 5 + 1, none⟩ = some (.int .i64 W)) ∧ w'.cell? ⟨b', off' + j * 5 + 3, none⟩ = some (.int .i64 V) ∧ w'.cell? ⟨b', off' + j * 5 + 1, none⟩ = some (.int .i64 W))) (by kernel_rfl) ?_ (fun hHeld => ?_)
      · exact HS.out _ (by exact below_dn HD.out 1)
      refine Hand.held_take (i := 0) (d := 75) (v := ?_) rfl rfl (by kernel_rfl) (by kernel_rfl) (by kernel_rfl) (by rfl) ?_ (by assumption) (fun _ _ _ h => h) ?_
      rotate_left
      · intro w hSw
        go_simp
        with_reducible rfl
      try simp only [Act.put, List.setIfInBounds_toArray, List.set_cons_zero, List.set_cons_succ]
      refine Hand.held_take (i := 1) (d := 76) (v := ?_) rfl rfl (by kernel_rfl) (by kernel_rfl) (by kernel_rfl) (by rfl) ?_ (by assumption) (fun _ _ _ h => h) ?_
      rotate_left
      · intro w hSw
        go_simp
        with_reducible rfl
      try simp only [Act.put, List.setIfInBounds_toArray, List.set_cons_zero, List.set_cons_succ]
      refine Hand.held_take (i := 2) (d := 77) (v := ?_) rfl rfl (by kernel_rfl) (by kernel_rfl) (by kernel_rfl) (by rfl) ?_ (by assumption) (fun _ _ _ h => h) ?_
      rotate_left
      · intro w hSw
        go_simp
        with_reducible rfl
      try simp only [Act.put, List.setIfInBounds_toArray, List.set_cons_zero, List.set_cons_succ]
      refine Hand.held_take (i := 3) (d := 78) (v := ?_) rfl rfl (by kernel_rfl) (by kernel_rfl) (by kernel_rfl) (by rfl) ?_ (by assumption) (fun _ _ _ h => h) ?_
      rotate_left
      · intro w hSw
        go_simp
        with_reducible rfl
      try simp only [Act.put, List.setIfInBounds_toArray, List.set_cons_zero, List.set_cons_succ]
      refine Hand.held_take (i := 4) (d := 79) (v := ?_) rfl rfl (by kernel_rfl) (by kernel_rfl) (by kernel_rfl) (by rfl) ?_ (by assumption) (fun _ _ _ h => h) ?_
      rotate_left
      · intro w hSw
        go_simp
        with_reducible rfl
      try simp only [Act.put, List.setIfInBounds_toArray, List.set_cons_zero, List.set_cons_succ]
      refine Hand.held_take (i := 5) (d := 80) (v := ?_) rfl rfl (by kernel_rfl) (by kernel_rfl) (by kernel_rfl) (by rfl) ?_ (by assumption) (fun _ _ _ h => h) ?_
      rotate_left
      · intro w hSw
        go_simp
        with_reducible rfl
      try simp only [Act.put, List.setIfInBounds_toArray, List.set_cons_zero, List.set_cons_succ]
      refine Hand.held_take (i := 6) (d := 81) (v := ?_) rfl rfl (by kernel_rfl) (by kernel_rfl) (by kernel_rfl) (by rfl) ?_ (by assumption) (fun _ _ _ h => h) ?_
      rotate_left
      · intro w hSw
        go_simp
        with_reducible rfl
      try simp only [Act.put, List.setIfInBounds_toArray, List.set_cons_zero, List.set_cons_succ]
      refine Hand.held_take (i := 7) (d := 82) (v := ?_) rfl rfl (by kernel_rfl) (by kernel_rfl) (by kernel_rfl) (by rfl) ?_ (by assumption) (fun _ _ _ h => h) ?_
      rotate_left
      · intro w hSw
        go_simp
        with_reducible rfl
      try simp only [Act.put, List.setIfInBounds_toArray, List.set_cons_zero, List.set_cons_succ]
      refine Hand.held_take (i := 8) (d := 83) (v := ?_) rfl rfl (by kernel_rfl) (by kernel_rfl) (by kernel_rfl) (by rfl) ?_ (by assumption) (fun _ _ _ h => h) ?_
      rotate_left
      · intro w hSw
        go_simp
        with_reducible rfl
      try simp only [Act.put, List.setIfInBounds_toArray, List.set_cons_zero, List.set_cons_succ]
      refine Hand.held_take (i := 9) (d := 84) (v := ?_) rfl rfl (by kernel_rfl) (by kernel_rfl) (by kernel_rfl) (by rfl) ?_ (by assumption) (fun _ _ _ h => h) ?_
      rotate_left
      · intro w hSw
        go_simp
        with_reducible rfl
      try simp only [Act.put, List.setIfInBounds_toArray, List.set_cons_zero, List.set_cons_succ]
      refine Hand.held_take (i := 10) (d := 85) (v := ?_) rfl rfl (by kernel_rfl) (by kernel_rfl) (by kernel_rfl) (by rfl) ?_ (by assumption) (fun _ _ _ h => h) ?_
      rotate_left
      · intro w hSw
        go_simp
        with_reducible rfl
      try simp only [Act.put, List.setIfInBounds_toArray, List.set_cons_zero, List.set_cons_succ]
      refine Hand.held_take (i := 11) (d := 86) (v := ?_) rfl rfl (by kernel_rfl) (by kernel_rfl) (by kernel_rfl) (by rfl) ?_ (by assumption) (fun _ _ _ h => h) ?_
      rotate_left
      · intro w hSw
        go_simp
        with_reducible rfl
      try simp only [Act.put, List.setIfInBounds_toArray, List.set_cons_zero, List.set_cons_succ]
      refine Hand.held_take (i := 12) (d := 87) (v := ?_) rfl rfl (by kernel_rfl) (by kernel_rfl) (by kernel_rfl) (by rfl) ?_ (by assumption) (fun _ _ _ h => h) ?_
      rotate_left
      · intro w hSw
        go_simp
        with_reducible rfl
      try simp only [Act.put, List.setIfInBounds_toArray, List.set_cons_zero, List.set_cons_succ]
      refine Hand.held_take (i := 13) (d := 88) (v := ?_) rfl rfl (by kernel_rfl) (by kernel_rfl) (by kernel_rfl) (by rfl) ?_ (by assumption) (fun _ _ _ h => h) ?_
      rotate_left
      · intro w hSw
        go_simp
        with_reducible rfl
      try simp only [Act.put, List.setIfInBounds_toArray, List.set_cons_zero, List.set_cons_succ]
      refine Hand.held_take (i := 14) (d := 89) (v := ?_) rfl rfl (by kernel_rfl) (by kernel_rfl) (by kernel_rfl) (by rfl) ?_ (by assumption) (fun _ _ _ h => h) ?_
      rotate_left
      · intro w hSw
        go_simp
        with_reducible rfl
      try simp only [Act.put, List.setIfInBounds_toArray, List.set_cons_zero, List.set_cons_succ]
      refine Hand.held_take (i := 15) (d := 90) (v := ?_) rfl rfl (by kernel_rfl) (by kernel_rfl) (by kernel_rfl) (by rfl) ?_ (by assumption) (fun _ _ _ h => h) ?_
      rotate_left
      · intro w hSw
        go_simp
        with_reducible rfl
      try simp only [Act.put, List.setIfInBounds_toArray, List.set_cons_zero, List.set_cons_succ]
      refine Hand.held_take (i := 16) (d := 91) (v := ?_) rfl rfl (by kernel_rfl) (by kernel_rfl) (by kernel_rfl) (by rfl) ?_ (by assumption) (fun _ _ _ h => h) ?_
      rotate_left
      · intro w hSw
        go_simp
        with_reducible rfl
      try simp only [Act.put, List.setIfInBounds_toArray, List.set_cons_zero, List.set_cons_succ]
      refine Hand.held_take (i := 17) (d := 92) (v := ?_) rfl rfl (by kernel_rfl) (by kernel_rfl) (by kernel_rfl) (by rfl) ?_ (by assumption) (fun _ _ _ h => h) ?_
      rotate_left
      · intro w hSw
        go_simp
        with_reducible rfl
      try simp only [Act.put, List.setIfInBounds_toArray, List.set_cons_zero, List.set_cons_succ]
      refine Hand.held_take (i := 18) (d := 93) (v := ?_) rfl rfl (by kernel_rfl) (by kernel_rfl) (by kernel_rfl) (by rfl) ?_ (by assumption) (fun _ _ _ h => h) ?_
      rotate_left
      · intro w hSw
        go_simp
        with_reducible rfl
      try simp only [Act.put, List.setIfInBounds_toArray, List.set_cons_zero, List.set_cons_succ]
      refine Hand.held_take (i := 19) (d := 94) (v := ?_) rfl rfl (by kernel_rfl) (by kernel_rfl) (by kernel_rfl) (by rfl) ?_ (by assumption) (fun _ _ _ h => h) ?_
      rotate_left
      · intro w hSw
        go_simp
        with_reducible rfl
      try simp only [Act.put, List.setIfInBounds_toArray, List.set_cons_zero, List.set_cons_succ]
      refine Hand.held_take (i := 20) (d := 95) (v := ?_) rfl rfl (by kernel_rfl) (by kernel_rfl) (by kernel_rfl) (by rfl) ?_ (by assumption) (fun _ _ _ h => h) ?_
      rotate_left
      · intro w hSw
        go_simp
        with_reducible rfl
      try simp only [Act.put, List.setIfInBounds_toArray, List.set_cons_zero, List.set_cons_succ]
      refine Hand.held_take (i := 21) (d := 96) (v := ?_) rfl rfl (by kernel_rfl) (by kernel_rfl) (by kernel_rfl) (by rfl) ?_ (by assumption) (fun _ _ _ h => h) ?_
      rotate_left
      · intro w hSw
        go_simp
        with_reducible rfl
      try simp only [Act.put, List.setIfInBounds_toArray, List.set_cons_zero, List.set_cons_succ]
      refine Hand.held_take (i := 22) (d := 97) (v := ?_) rfl rfl (by kernel_rfl) (by kernel_rfl) (by kernel_rfl) (by rfl) ?_ (by assumption) (fun _ _ _ h => h) ?_
      rotate_left
      · intro w hSw
        go_simp
        with_reducible rfl
      try simp only [Act.put, List.setIfInBounds_toArray, List.set_cons_zero, List.set_cons_succ]
      refine Hand.held_take (i := 23) (d := 98) (v := ?_) rfl rfl (by kernel_rfl) (by kernel_rfl) (by kernel_rfl) (by rfl) ?_ (by assumption) (fun _ _ _ h => h) ?_
      rotate_left
      · intro w hSw
        go_simp
        with_reducible rfl
      try simp only [Act.put, List.setIfInBounds_toArray, List.set_cons_zero, List.set_cons_succ]
      refine Hand.held_take (i := 24) (d := 99) (v := ?_) rfl rfl (by kernel_rfl) (by kernel_rfl) (by kernel_rfl) (by rfl) ?_ (by assumption) (fun _ _ _ h => h) ?_
      rotate_left
      · intro w hSw
        go_simp
        with_reducible rfl
      try simp only [Act.put, List.setIfInBounds_toArray, List.set_cons_zero, List.set_cons_succ]
      refine Hand.held_take (i := 25) (d := 100) (v := ?_) rfl rfl (by kernel_rfl) (by kernel_rfl) (by kernel_rfl) (by rfl) ?_ (by assumption) (fun _ _ _ h => h) ?_
      rotate_left
      · intro w hSw
        go_simp
        with_reducible rfl
      try simp only [Act.put, List.setIfInBounds_toArray, List.set_cons_zero, List.set_cons_succ]
      refine Hand.held_take (i := 26) (d := 101) (v := ?_) rfl rfl (by kernel_rfl) (by kernel_rfl) (by kernel_rfl) (by rfl) ?_ (by assumption) (fun _ _ _ h => h) ?_
      rotate_left
      · intro w hSw
        go_simp
        with_reducible rfl
      try simp only [Act.put, List.setIfInBounds_toArray, List.set_cons_zero, List.set_cons_succ]
      refine Hand.held_take (i := 27) (d := 102) (v := ?_) rfl rfl (by kernel_rfl) (by kernel_rfl) (by kernel_rfl) (by rfl) ?_ (by assumption) (fun _ _ _ h => h) ?_
      rotate_left
      · intro w hSw
        go_simp
        with_reducible rfl
      try simp only [Act.put, List.setIfInBounds_toArray, List.set_cons_zero, List.set_cons_succ]
      refine Hand.held_take (i := 28) (d := 103) (v := ?_) rfl rfl (by kernel_rfl) (by kernel_rfl) (by kernel_rfl) (by rfl) ?_ (by assumption) (fun _ _ _ h => h) ?_
      rotate_left
      · intro w hSw
        go_simp
        with_reducible rfl
      try simp only [Act.put, List.setIfInBounds_toArray, List.set_cons_zero, List.set_cons_succ]
      refine Hand.held_take (i := 29) (d := 104) (v := ?_) rfl rfl (by kernel_rfl) (by kernel_rfl) (by kernel_rfl) (by rfl) ?_ (by assumption) (fun _ _ _ h => h) ?_
      rotate_left
      · intro w hSw
        go_simp
        with_reducible rfl
      try simp only [Act.put, List.setIfInBounds_toArray, List.set_cons_zero, List.set_cons_succ]
      refine Hand.held_take (i := 30) (d := 105) (v := ?_) rfl rfl (by kernel_rfl) (by kernel_rfl) (by kernel_rfl) (by rfl) ?_ (by assumption) (fun _ _ _ h => h) ?_
      rotate_left
      · intro w hSw
        go_simp
        with_reducible rfl
      try simp only [Act.put, List.setIfInBounds_toArray, List.set_cons_zero, List.set_cons_succ]
      refine Hand.held_take (i := 31) (d := 106) (v := ?_) rfl rfl (by kernel_rfl) (by kernel_rfl) (by kernel_rfl) (by rfl) ?_ (by assumption) (fun _ _ _ h => h) ?_
      rotate_left
      · intro w hSw
        go_simp
        with_reducible rfl
      try simp only [Act.put, List.setIfInBounds_toArray, List.set_cons_zero, List.set_cons_succ]
      refine Hand.held_take (i := 32) (d := 107) (v := ?_) rfl rfl (by kernel_rfl) (by kernel_rfl) (by kernel_rfl) (by rfl) ?_ (by assumption) (fun _ _ _ h => h) ?_
      rotate_left
      · intro w hSw
        go_simp
        with_reducible rfl
      try simp only [Act.put, List.setIfInBounds_toArray, List.set_cons_zero, List.set_cons_succ]
      refine Hand.held_take (i := 35) (d := 110) (v := ?_) rfl rfl (by kernel_rfl) (by kernel_rfl) (by kernel_rfl) (by rfl) ?_ (by assumption) (fun _ _ _ h => h) ?_
      rotate_left
      · intro w hSw
        go_simp
        with_reducible rfl
      try simp only [Act.put, List.setIfInBounds_toArray, List.set_cons_zero, List.set_cons_succ]
      refine wpAnyH_ready (rs := [33]) (by kernel_rfl) (by simp) ?_
      refine AllReadyH.cons rfl (fun K hK => ?_) AllReadyH.nil
      go_simp
      go_wp2_with (refine (HO.out _ (HWB.out _ (by exact below_dn HD.out 1))).mono ?_; rintro e v3 ⟨Q, m, rfl, rfl, _, _, hb⟩; have hB4 : Below wd.heap.size wd v3 := below_then (by exact below_dn HD.out 1) hb; clear hb HO)
      refine hK.out _ _ ?_ (fun hHeld => ?_)
      · exact HS.out _ hB4
      clear hK K
      refine Hand.held_take (i := 34) (d := 109) (v := ?_) rfl rfl (by kernel_rfl) (by kernel_rfl) (by kernel_rfl) (by rfl) ?_ (by assumption) (fun _ _ _ h => h) ?_
      rotate_left
      · intro w hSw
        go_simp
        with_reducible rfl
      try simp only [Act.put, List.setIfInBounds_toArray, List.set_cons_zero, List.set_cons_succ]
      refine wpAnyH_ready (rs := [36]) (by kernel_rfl) (by simp) ?_
      refine AllReadyH.cons rfl (fun K hK => ?_) AllReadyH.nil
      go_simp
      go_wp2_with (refine (HU.out _ (by exact hB4)).mono ?_; rintro e v4 ⟨Q', m', rfl, rfl, _, _, hb⟩; have hB5 := below_then hB4 hb; clear hb HU)
      refine hK.out _ _ ?_ (fun hHeld => ?_)
      · exact HS.out _ hB5
      clear hK K
      refine Hand.held_take (i := 37) (d := 112) (v := ?_) rfl rfl (by kernel_rfl) (by kernel_rfl) (by kernel_rfl) (by rfl) ?_ (by assumption) (fun _ _ _ h => h) ?_
      rotate_left
      · intro w hSw
        go_simp
        with_reducible rfl
      try simp only [Act.put, List.setIfInBounds_toArray, List.set_cons_zero, List.set_cons_succ]
      refine Hand.held_take (i := 38) (d := 113) (v := ?_) rfl rfl (by kernel_rfl) (by kernel_rfl) (by kernel_rfl) (by rfl) ?_ (by assumption) (fun _ _ _ h => h) ?_
      rotate_left
      · intro w hSw
        go_simp
        with_reducible rfl
      try simp only [Act.put, List.setIfInBounds_toArray, List.set_cons_zero, List.set_cons_succ]
      refine Hand.held_take (i := 39) (d := 114) (v := ?_) rfl rfl (by kernel_rfl) (by kernel_rfl) (by kernel_rfl) (by rfl) ?_ (by assumption) (fun _ _ _ h => h) ?_
      rotate_left
      · intro w hSw
        go_simp
        with_reducible rfl
      try simp only [Act.put, List.setIfInBounds_toArray, List.set_cons_zero, List.set_cons_succ]
      refine Hand.held_take (i := 40) (d := 4) (v := ?_) rfl rfl (by kernel_rfl) (by kernel_rfl) (by kernel_rfl) (by rfl) ?_ (by assumption) (fun _ _ _ h => h) ?_
      rotate_left
      · intro w hSw
        go_simp
        with_reducible rfl
      try simp only [Act.put, List.setIfInBounds_toArray, List.set_cons_zero, List.set_cons_succ]
      refine wpAnyH_done (by kernel_rfl) ?_ _
      go_wp2
      go_ret
      exact ⟨by first | rfl | simp, HWB.out _ hB5⟩

theorem own : ownKnob Try.prog.godebug = none := by kernel_rfl
theorem laid : laidOutB Try.prog = true := by kernel_rfl

set_option maxRecDepth 100000 in
theorem lifted (os : Os) (started : os.Started) (H : Type) (enc : TypeId × Value → H) :
    ReturnsInHanded {} Try.checked os 7 .any (Rows.victimTurnedSpec.pre6 enc Try.prog Try.f7 Rows.victimTurnedRow.domain false) (Rows.victimTurnedSpec.post enc Try.prog Try.f7 false true false false) := by
  refine returnsInHanded_of_change (C := Try.checked) own started (by kernel_rfl) Try.func7
    (ChangeSpec.witness6 (enc := enc) (C := Try.checked) false ⟨#[], #[.slice none 0 0, .int .i64 0], []⟩ 8 (by kernel_rfl) (by kernel_rfl) (by kernel_rfl) (by kernel_rfl)) ?_
  intro W base args ds gs before hval0 hW _ _
  have hval : ∀ (j : Nat) t v, Try.f7.params[j]? = some t → args[j]? = some v → Value.okWide Try.prog W .any base t v := hval0
  have hW' := hW
  obtain ⟨p, q, hA0, hV, rfl, hfz, hnd⟩ := hW
  have hA : DataW.TrodAll enc Try.prog W 0 (fun _ => true) true Try.f7.params.toList args.toList ds p := hA0
  rw [Try.params7] at hA hval
  obtain ⟨v0, v1, d0, d1, p0, p1, rfl, rfl, rfl, h0, h1⟩ := trodAll_two hA
  obtain ⟨A0, n0, c0, f0, rfl, hnc0, hcm0, hr0⟩ := VictimOps.open_lines (hval 0 22 v0 rfl rfl) h0
  obtain ⟨a1, rfl, rfl, rfl, wf1⟩ := open_int Try.underlying3 (hval 1 3 v1 rfl rfl) h1
  have hb1 : -9223372036854775808 ≤ a1 ∧ a1 ≤ 9223372036854775807 := by simpa [Lit.wf, IntKind.min, IntKind.max, IntKind.signed, IntKind.bits] using wf1
  refine (walk A0 n0 c0 f0 a1 W hnc0 hcm0 hr0 hb1.1 hb1.2).mono fun e W' ⟨he, hb⟩ => ?_
  subst he
  exact ⟨_, rfl, Law.post laid (by kernel_rfl) (by kernel_rfl) Try.underlying4 rfl hW' rfl hb⟩

theorem proved : Rows.VictimTurnedSaid :=
  OpenClaim.holds_of_wide 7 Try.f7 rfl rfl rfl rfl rfl rfl rfl ⟨rfl, rfl, rfl, rfl, rfl⟩ rfl rfl rfl rfl rfl (by kernel_rfl) Try.func7 (by kernel_rfl)
    (of_decide_eq_true (by kernel_rfl)) (by unfold Func.isWrapper; first | (rw [if_pos (by decide +kernel)]; kernel_rfl) | (rw [if_neg (by decide +kernel)]; exact ⟨rfl, rfl⟩))
    (fun os started H enc _ => lifted os started H enc)

end Go.Proofs.Ytodaigdlfpinhaa.victimTurned
