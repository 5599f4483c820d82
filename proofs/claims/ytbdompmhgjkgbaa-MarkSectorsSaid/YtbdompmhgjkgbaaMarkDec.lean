/-
  What each function of package mark does, the second part: decode.
-/
import Derived.Test.YtbdompmhgjkgbaaMarkWalks
import Derived.Test.YtbdompmhgjkgbaaHeld
namespace Go.Proofs.Ytbdompmhgjkgbaa.MarkPkg
open Go.RowKit Go.Proofs.Ytbdompmhgjkgbaa.OobPkg
set_option maxRecDepth 4000
attribute [-go_sem] loadCellsFrom storeCells

set_option maxHeartbeats 400000 in
theorem decode_any (b : List UInt8) (hl : b.length = 16) (w : World) :
    Calls Try.prog 21 #[.agg (b.map cellOf).toArray] w fun e w' => e = .returned (tri (Mark.lineOf b) (Mark.wearOf b) (bits .or .i64 (IntKind.i64.wrap (Mark.highOf b * 4294967296)) (Mark.lowOf b))) ∧ Below w.heap.size w w' := by
  have ha := Arr.new w 42 b
  have hx0 : b[2]? = some (b.getD 2 0) := by
    rw [List.getD, List.getElem?_eq_getElem (by omega)]
    rfl
  have f9 : ∀ w, Calls Try.prog 26 #[.agg (b.map cellOf).toArray, .int .i64 12] w fun e w' => e = .returned (.int .i64 (Mark.highOf b)) ∧ Below w.heap.size w w' := fun w => fixed_arr 12 (by omega) b hl _ rfl w
  have f5 : ∀ w, Calls Try.prog 26 #[.agg (b.map cellOf).toArray, .int .i64 8] w fun e w' => e = .returned (.int .i64 (Mark.lowOf b)) ∧ Below w.heap.size w w' := fun w => fixed_arr 8 (by omega) b hl _ rfl w
  have f1 : ∀ w, Calls Try.prog 26 #[.agg (b.map cellOf).toArray, .int .i64 4] w fun e w' => e = .returned (.int .i64 (Mark.wearOf b)) ∧ Below w.heap.size w w' := fun w => fixed_arr 4 (by omega) b hl _ rfl w
  have hkd : ((b.getD 2 0).toNat : Int) = Mark.lineOf b := rfl
  obtain ⟨hk0, hk1⟩ := Mark.line_bd b
  obtain ⟨hh0, hh1⟩ := Mark.high_bd b
  obtain ⟨hl0, hl1⟩ := Mark.low_bd b
  generalize Mark.highOf b = hi at f9 hh0 hh1 ⊢
  generalize Mark.lowOf b = lo at f5 hl0 hl1 ⊢
  generalize Mark.wearOf b = l at f1 ⊢
  generalize Mark.lineOf b = k at hk0 hk1 hkd ⊢
  obtain ⟨cs, hcs⟩ : ∃ cs, cs = b.map cellOf := ⟨_, rfl⟩
  rw [← hcs] at f9 f5 f1 ha ⊢
  have hcl : cs.length = 16 := by rw [hcs]; simpa using hl
  have F9 := Lib.hid f9
  have F5 := Lib.hid f5
  have F1 := Lib.hid f1
  have HCS := Lib.hid hcs
  have HX0 := Lib.hid hx0
  have HKD := Lib.hid hkd
  have HL := Lib.hid hl
  have HA := Lib.hid ha
  clear f9 f5 f1 hcs hx0 hkd hl ha
  go_enter Try.func21, Try.ntmps21
  go_wp2
  refine at_world ?_
  intro X hX
  replace HA := Lib.hid (show Arr X w.heap.size 42 b by rw [hX]; exact HA.out.old _)
  have HT := Lib.hid (show Three 23 X (w.heap.size + 1) 0 0 0 by rw [hX]; have h := Three.new 23 (w.alloc (.cells cs.toArray 42)) 0 0 0; rw [World.size_alloc] at h; exact h)
  have HB := Lib.hid (show Below w.heap.size w X by rw [hX]; exact ((Below.refl w.heap.size w).alloc (Nat.le_refl _) _).alloc (by simp) _)
  clear hX
  have hGR : w.heap.size < w.heap.size + 1 := by omega
  obtain ⟨R, hR⟩ : ∃ R, R = w.heap.size + 1 := ⟨_, rfl⟩
  rw [← hR] at HT hGR ⊢
  clear hR
  have hld : (loadCellsFrom ⟨w.heap.size, 0, none⟩ 0 16 #[]).run Try.prog X.drew = .ok cs.toArray X.drew := by rw [HCS.out]; exact run_load_arr (w := X.drew) HA.out HL.out
  refine wp_region_held_drew (S := (fun w' => (loadCellsFrom ⟨w.heap.size, 0, none⟩ 0 16 #[]).run Try.prog w' = .ok cs.toArray w')) (by kernel_rfl) ?_ (fun hHeld => ?_)
  · exact hld
  refine Hand.held_take (i := 0) (d := 4) (v := ?_) rfl rfl (by kernel_rfl) (by kernel_rfl) (by kernel_rfl) (by rfl) ?_ (by assumption) (fun _ _ _ h => h) ?_
  rotate_left
  · intro w hSw
    go_simp
    with_reducible rfl
  try simp only [Act.put, List.setIfInBounds_toArray, List.set_cons_zero, List.set_cons_succ]
  refine Hand.held_take (i := 3) (d := 7) (v := ?_) rfl rfl (by kernel_rfl) (by kernel_rfl) (by kernel_rfl) (by rfl) ?_ (by assumption) (fun _ _ _ h => h) ?_
  rotate_left
  · intro w hSw
    go_simp
    with_reducible rfl
  try simp only [Act.put, List.setIfInBounds_toArray, List.set_cons_zero, List.set_cons_succ]
  refine wpAnyH_ready (rs := [1]) (by kernel_rfl) (by simp) ?_
  refine AllReadyH.cons rfl (fun K hK => ?_) AllReadyH.nil
  go_simp
  go_wp2_with (go_at_call 26; refine (F9.out _).mono ?_; rintro e w2 ⟨rfl, hb⟩; have HA2 := Lib.hid (HA.out.keepd hb))
  refine hK.out _ _ ?_ (fun hHeld => ?_)
  · rw [HCS.out]; exact run_load_arr HA2.out HL.out
  clear hK K
  refine Hand.held_take (i := 2) (d := 6) (v := ?_) rfl rfl (by kernel_rfl) (by kernel_rfl) (by kernel_rfl) (by rfl) ?_ (by assumption) (fun _ _ _ h => h) ?_
  rotate_left
  · intro w hSw
    go_simp
    with_reducible rfl
  try simp only [Act.put, List.setIfInBounds_toArray, List.set_cons_zero, List.set_cons_succ]
  refine wpAnyH_ready (rs := [4]) (by kernel_rfl) (by simp) ?_
  refine AllReadyH.cons rfl (fun K hK => ?_) AllReadyH.nil
  go_simp
  go_wp2_with (go_at_call 26; refine (F5.out _).mono ?_; rintro e w3 ⟨rfl, hb2⟩; have HA3 := Lib.hid (HA2.out.keep hb2))
  refine hK.out _ _ ?_ (fun hHeld => ?_)
  · rw [HCS.out]; exact run_load_arr HA3.out HL.out
  clear hK K
  refine Hand.held_take (i := 5) (d := 9) (v := ?_) rfl rfl (by kernel_rfl) (by kernel_rfl) (by kernel_rfl) (by rfl) ?_ (by assumption) (fun _ _ _ h => h) ?_
  rotate_left
  · intro w hSw
    go_simp
    with_reducible rfl
  try simp only [Act.put, List.setIfInBounds_toArray, List.set_cons_zero, List.set_cons_succ]
  refine Hand.held_take (i := 6) (d := 3) (v := ?_) rfl rfl (by kernel_rfl) (by kernel_rfl) (by kernel_rfl) (by rfl) ?_ (by assumption) (fun _ _ _ h => h) ?_
  rotate_left
  · intro w hSw
    go_simp
    with_reducible rfl
  try simp only [Act.put, List.setIfInBounds_toArray, List.set_cons_zero, List.set_cons_succ]
  refine wpAnyH_done (by kernel_rfl) ?_ _
  go_wp2
  have hwk : IntKind.i64.wrap k = k := (IntWalk.i64_left k).trans (IntWalk.wrap64_in k ⟨by omega, by omega⟩)
  obtain ⟨st, hst⟩ : ∃ st, st = bits .or .i64 (IntKind.i64.wrap (hi * 4294967296)) lo := ⟨_, rfl⟩
  rw [← hst]
  have HST := Lib.hid hst
  have HB3 := Lib.hid (below_on (below_on HB.out.drew hb) hb2)
  have HT3 := Lib.hid ((Three.keep (w := X.drew) HT.out hb).keep hb2)
  clear hst hHeld hld hb hb2
  have hld : (loadCellsFrom ⟨w.heap.size, 0, none⟩ 0 16 #[]).run Try.prog w3.drew = .ok cs.toArray w3.drew ∧ w3.drew.cell? ⟨w.heap.size, 2, none⟩ = some (.int .u8 k) := ⟨by rw [HCS.out]; exact run_load_arr (w := w3.drew) HA3.out HL.out, by rw [← HKD.out]; exact HA3.out.cell HX0.out⟩
  refine wp_region_held_drew (S := (fun w' => (loadCellsFrom ⟨w.heap.size, 0, none⟩ 0 16 #[]).run Try.prog w' = .ok cs.toArray w' ∧ w'.cell? ⟨w.heap.size, 2, none⟩ = some (.int .u8 k))) (by kernel_rfl) ?_ (fun hHeld => ?_)
  · exact hld
  refine Hand.held_take (i := 0) (d := 10) (v := ?_) rfl rfl (by kernel_rfl) (by kernel_rfl) (by kernel_rfl) (by rfl) ?_ (by assumption) (fun _ _ _ h => h) ?_
  rotate_left
  · intro w hSw
    go_simp
    with_reducible rfl
  try simp only [Act.put, List.setIfInBounds_toArray, List.set_cons_zero, List.set_cons_succ]
  refine Hand.held_take (i := 1) (d := 11) (v := ?_) rfl rfl (by kernel_rfl) (by kernel_rfl) (by kernel_rfl) (by rfl) ?_ (by assumption) (fun _ _ _ h => h) ?_
  rotate_left
  · intro w hSw
    go_simp
    with_reducible rfl
  try simp only [Act.put, List.setIfInBounds_toArray, List.set_cons_zero, List.set_cons_succ]
  refine Hand.held_take (i := 2) (d := 12) (v := ?_) rfl rfl (by kernel_rfl) (by kernel_rfl) (by kernel_rfl) (by rfl) ?_ (by assumption) (fun _ _ _ h => h) ?_
  rotate_left
  · intro w hSw
    go_simp
    with_reducible rfl
  try simp only [Act.put, List.setIfInBounds_toArray, List.set_cons_zero, List.set_cons_succ]
  refine Hand.held_take (i := 3) (d := 13) (v := ?_) rfl rfl (by kernel_rfl) (by kernel_rfl) (by kernel_rfl) (by rfl) ?_ (by assumption) (fun _ _ _ h => h) ?_
  rotate_left
  · intro w hSw
    go_simp
    with_reducible rfl
  try simp only [Act.put, List.setIfInBounds_toArray, List.set_cons_zero, List.set_cons_succ]
  refine Hand.held_take (i := 5) (d := 15) (v := ?_) rfl rfl (by kernel_rfl) (by kernel_rfl) (by kernel_rfl) (by rfl) ?_ (by assumption) (fun _ _ _ h => h) ?_
  rotate_left
  · intro w hSw
    go_simp
    with_reducible rfl
  try simp only [Act.put, List.setIfInBounds_toArray, List.set_cons_zero, List.set_cons_succ]
  refine wpAnyH_ready (rs := [4]) (by kernel_rfl) (by simp) ?_
  refine AllReadyH.cons rfl (fun K hK => ?_) AllReadyH.nil
  go_simp
  go_wp2_with (go_at_call 26; refine (F1.out _).mono ?_; rintro e w4 ⟨rfl, hb⟩; have HA4 := Lib.hid (HA3.out.keepd hb))
  refine hK.out _ _ ?_ (fun hHeld => ?_)
  · exact ⟨by rw [HCS.out]; exact run_load_arr HA4.out HL.out, by rw [← HKD.out]; exact HA4.out.cell HX0.out⟩
  clear hK K
  refine Hand.held_take (i := 6) (d := 16) (v := ?_) rfl rfl (by kernel_rfl) (by kernel_rfl) (by kernel_rfl) (by rfl) ?_ (by assumption) (fun _ _ _ h => h) ?_
  rotate_left
  · intro w hSw
    go_simp
    with_reducible rfl
  try simp only [Act.put, List.setIfInBounds_toArray, List.set_cons_zero, List.set_cons_succ]
  obtain ⟨w5, hst, ht5, hb5⟩ := (Three.keep (w := w3.drew) HT3.out hb).store Try.prog k l st
  have HA5 := Lib.hid (show Arr w5 w.heap.size 42 b from (hb5.block _ hGR).trans HA4.out)
  refine wpAnyH_ready (rs := [7]) (by kernel_rfl) (by simp) ?_
  refine AllReadyH.cons rfl (fun K hK => ?_) AllReadyH.nil
  go_simp
  refine hK.out _ _ ?_ (fun hHeld => ?_)
  · exact ⟨by rw [HCS.out]; exact run_load_arr HA5.out HL.out, by rw [← HKD.out]; exact HA5.out.cell HX0.out⟩
  clear hK K
  refine wpAnyH_done (by kernel_rfl) ?_ _
  have hld5 := ht5.load (P := Try.prog)
  have HEND := Lib.hid (show Ending.returned (tri k l st) = .returned (tri k l st) ∧ Below w.heap.size w w5 from ⟨rfl, (below_on HB3.out.drew hb).trans (hb5.mono (by omega))⟩)
  clear hHeld hst ht5 hb5 hb hld
  go_wp2
  refine bodyPost_ret (v := tri k l st) ?_ rfl ⟨by rw [HST.out], HEND.out.2⟩
  simp [results, Try.results21, go_sem, hld5]

end Go.Proofs.Ytbdompmhgjkgbaa.MarkPkg
