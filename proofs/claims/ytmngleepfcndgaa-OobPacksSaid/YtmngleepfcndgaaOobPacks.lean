/-
  OobPacks: for all metadata and every slice of bytes the law answers true. No condition.
-/
import Derived.Test.YtmngleepfcndgaaOobRef3
namespace Go.Proofs.Ytmngleepfcndgaa.oobPacks
open Go.ChangeShapes Go.WideShapes Go.ChangeAt Go.RowKit Go.Proofs.Ytmngleepfcndgaa.OobPkg
set_option maxRecDepth 4000

/-- What Pack tells: the bytes, the error. -/
def packs (k l s : Int) (n : Nat) (d : List UInt8) : List UInt8 × Int := if Oob.Ok k l s ∧ n = 16 then (Oob.full k l s d, 0) else ([], 1)

theorem Pack_gen (k l s : Int) (A : Option Addr) (n c : Nat) (d : List UInt8) (w : World) (hr : Bytes w w.heap.size A n d) :
    Calls Try.prog 11 #[oob k l s, .slice A n c] w fun e w' => ∃ A' n' c', e = .returned (.tuple #[.slice A' n' c', .int .i64 (packs k l s n d).2]) ∧ Bytes w' w'.heap.size A' n' (packs k l s n d).1 ∧ Below w.heap.size w w' := by
  by_cases h : Oob.Ok k l s ∧ n = 16
  · have e : packs k l s n d = (Oob.full k l s d, 0) := if_pos h
    rw [e]
    obtain ⟨ok, rfl⟩ := h
    refine (Pack_ok k l s A c d w ok hr).mono ?_
    rintro e w' ⟨A', rfl, hr', hb⟩
    exact ⟨A', 17, 17, rfl, hr', hb⟩
  · have e : packs k l s n d = ([], 1) := if_neg h
    rw [e]
    refine (Pack_bad k l s A n c w h).mono ?_
    rintro e w' ⟨rfl, hb⟩
    exact ⟨none, 0, 0, rfl, ⟨rfl, fun i hi => absurd hi (by simp)⟩, hb⟩

theorem rPack_gen (k l s : Int) (A : Option Addr) (n c : Nat) (d : List UInt8) (w : World) (hr : Bytes w w.heap.size A n d) :
    Calls Try.prog 12 #[oob k l s, .slice A n c] w fun e w' => ∃ A' n' c', e = .returned (.tuple #[.slice A' n' c', .int .i64 (packs k l s n d).2]) ∧ Bytes w' w'.heap.size A' n' (packs k l s n d).1 ∧ Below w.heap.size w w' := by
  by_cases h : Oob.Ok k l s ∧ n = 16
  · have e : packs k l s n d = (Oob.full k l s d, 0) := if_pos h
    rw [e]
    obtain ⟨ok, rfl⟩ := h
    refine (rPack_ok k l s A c d w ok hr).mono ?_
    rintro e w' ⟨v, rfl, ho, hb⟩
    obtain ⟨A', c', rfl, hr'⟩ := ho.reads
    exact ⟨A', _, c', rfl, hr', hb⟩
  · have e : packs k l s n d = ([], 1) := if_neg h
    rw [e]
    refine (rPack_bad k l s A n c w h).mono ?_
    rintro e w' ⟨rfl, hb⟩
    exact ⟨none, 0, 0, rfl, ⟨rfl, fun i hi => absurd hi (by simp)⟩, hb⟩

set_option maxHeartbeats 2000000 in
theorem walk (k l s : Int) (A : Option Addr) (n c : Nat) (d : List UInt8) (w : World) (_hnc : n ≤ c) (_hcm : c ≤ maxLen) (hr : Bytes w w.heap.size A n d) :
    Calls Try.prog 3 #[oob k l s, .slice A n c] w fun e w' => e = .returned (.bool true) ∧ Below w.heap.size w w' := by
  have HB := Lib.hid ((Below.refl w.heap.size w).alloc (Nat.le_refl _) (.cells #[.int .i64 k, .int .i64 l, .int .i64 s] 23))
  have H1 := Lib.hid (Tri.new w k l s)
  have hp := fun w' h => Pack_gen k l s A n c d w' h
  have hq := fun w' h => rPack_gen k l s A n c d w' h
  generalize packs k l s n d = q at hp hq
  obtain ⟨u, z⟩ := q
  have hr1 := fun w => right_any k l s w
  have hr2 := fun w => rright_any k l s w
  generalize decide (Oob.Ok k l s) = r at hr1 hr2
  have HP := Lib.hid hp
  have HQ := Lib.hid hq
  have HR1 := Lib.hid hr1
  have HR2 := Lib.hid hr2
  have HR := Lib.hid hr
  clear hp hq hr1 hr2 hr
  go_enter Try.func3, Try.ntmps3
  go_wp2_with fail
  refine (awake_any _).mono ?_
  rintro e w1 ⟨rfl, hb⟩
  replace HB := Lib.hid (below_on HB.out hb)
  replace H1 := Lib.hid (H1.out.keep hb)
  clear hb
  have c0 := H1.out.c0
  have c1 := H1.out.c1
  have c2 := H1.out.c2
  go_wp2_with fail
  refine (HP.out w1 (bytes_more (bytes_keep HR.out HB.out) HB.out.size)).mono ?_
  rintro e w2 ⟨A2, n2, c3, rfl, hr2, hb⟩
  replace HB := Lib.hid (below_on HB.out hb)
  replace H1 := Lib.hid (H1.out.keep hb)
  have HRa := Lib.hid hr2
  clear hb hr2 c0 c1 c2
  have c0 := H1.out.c0
  have c1 := H1.out.c1
  have c2 := H1.out.c2
  go_wp2_with fail
  refine (HQ.out w2 (bytes_more (bytes_keep HR.out HB.out) HB.out.size)).mono ?_
  rintro e w3 ⟨A4, n4, c4, rfl, hr4, hb⟩
  replace HB := Lib.hid (below_on HB.out hb)
  replace H1 := Lib.hid (H1.out.keep hb)
  replace HRa := Lib.hid (bytes_more (bytes_keep HRa.out hb) hb.size)
  have HRb := Lib.hid hr4
  clear hb hr4 c0 c1 c2
  have hqq := str_eq (rfl : u = u)
  go_wp2
  refine wp_region_held_drew (S := (fun w' => w'.cell? ⟨w.heap.size, 0, none⟩ = some (.int .i64 k) ∧ w'.cell? ⟨w.heap.size, 1, none⟩ = some (.int .i64 l) ∧ w'.cell? ⟨w.heap.size, 2, none⟩ = some (.int .i64 s) ∧ (convert 24 9 (.slice A2 n2 c3)).run Try.prog w' = .ok (.string (str u)) w' ∧ (convert 24 9 (.slice A4 n4 c4)).run Try.prog w' = .ok (.string (str u)) w')) (by kernel_rfl) ?_ (fun hHeld => ?_)
  · exact ⟨H1.out.c0, H1.out.c1, H1.out.c2, run_str (P := Try.prog) w3.drew 24 9 5 Try.underlying24 Try.underlying5 Try.underlying9 (c := c3) HRa.out, run_str (P := Try.prog) w3.drew 24 9 5 Try.underlying24 Try.underlying5 Try.underlying9 (c := c4) HRb.out⟩
  refine Hand.held_take (i := 0) (d := 23) (v := ?_) rfl rfl (by kernel_rfl) (by kernel_rfl) (by kernel_rfl) (by rfl) ?_ (by assumption) (fun _ _ _ h => h) ?_
  rotate_left
  · intro w hSw
    go_simp
    with_reducible rfl
  try simp only [Act.put, List.setIfInBounds_toArray, List.set_cons_zero, List.set_cons_succ]
  refine Hand.held_take (i := 1) (d := 24) (v := ?_) rfl rfl (by kernel_rfl) (by kernel_rfl) (by kernel_rfl) (by rfl) ?_ (by assumption) (fun _ _ _ h => h) ?_
  rotate_left
  · intro w hSw
    go_simp
    with_reducible rfl
  try simp only [Act.put, List.setIfInBounds_toArray, List.set_cons_zero, List.set_cons_succ]
  refine Hand.held_take (i := 2) (d := 25) (v := ?_) rfl rfl (by kernel_rfl) (by kernel_rfl) (by kernel_rfl) (by rfl) ?_ (by assumption) (fun _ _ _ h => h) ?_
  rotate_left
  · intro w hSw
    go_simp
    with_reducible rfl
  try simp only [Act.put, List.setIfInBounds_toArray, List.set_cons_zero, List.set_cons_succ]
  refine Hand.held_take (i := 4) (d := 27) (v := ?_) rfl rfl (by kernel_rfl) (by kernel_rfl) (by kernel_rfl) (by rfl) ?_ (by assumption) (fun _ _ _ h => h) ?_
  rotate_left
  · intro w hSw
    go_simp
    with_reducible rfl
  try simp only [Act.put, List.setIfInBounds_toArray, List.set_cons_zero, List.set_cons_succ]
  refine wpAnyH_ready (rs := [3]) (by kernel_rfl) (by simp) ?_
  refine AllReadyH.cons rfl (fun K hK => ?_) AllReadyH.nil
  go_simp
  go_wp2_with (go_at_call 13; refine (HR1.out _).mono ?_; rintro e w4 ⟨rfl, hb⟩; have HT4 := Lib.hid (Tri.keep (w := w3.drew) H1.out hb); have HB4 := Lib.hid (below_on HB.out.drew hb); have HRa4 := Lib.hid (bytes_more (bytes_keep HRa.out (below_ond (Below.refl _ _) (Nat.le_refl _) hb)) hb.size); have HRb4 := Lib.hid (bytes_more (bytes_keep HRb.out (below_ond (Below.refl _ _) (Nat.le_refl _) hb)) hb.size))
  refine hK.out _ _ ?_ (fun hHeld => ?_)
  · exact ⟨HT4.out.c0, HT4.out.c1, HT4.out.c2, run_str (P := Try.prog) w4 24 9 5 Try.underlying24 Try.underlying5 Try.underlying9 (c := c3) HRa4.out, run_str (P := Try.prog) w4 24 9 5 Try.underlying24 Try.underlying5 Try.underlying9 (c := c4) HRb4.out⟩
  clear hK K
  clear hb
  refine wpAnyH_ready (rs := [5]) (by kernel_rfl) (by simp) ?_
  refine AllReadyH.cons rfl (fun K hK => ?_) AllReadyH.nil
  go_simp
  go_wp2_with (go_at_call 14; refine (HR2.out _).mono ?_; rintro e w5 ⟨rfl, hb⟩; have HT5 := Lib.hid (HT4.out.keep hb); have HB5 := Lib.hid (below_on HB4.out hb); have HRa5 := Lib.hid (bytes_more (bytes_keep HRa4.out hb) hb.size); have HRb5 := Lib.hid (bytes_more (bytes_keep HRb4.out hb) hb.size))
  refine hK.out _ _ ?_ (fun hHeld => ?_)
  · exact ⟨HT5.out.c0, HT5.out.c1, HT5.out.c2, run_str (P := Try.prog) w5 24 9 5 Try.underlying24 Try.underlying5 Try.underlying9 (c := c3) HRa5.out, run_str (P := Try.prog) w5 24 9 5 Try.underlying24 Try.underlying5 Try.underlying9 (c := c4) HRb5.out⟩
  clear hK K
  clear hb
  refine Hand.held_take (i := 6) (d := 29) (v := ?_) rfl rfl (by kernel_rfl) (by kernel_rfl) (by kernel_rfl) (by rfl) ?_ (by assumption) (fun _ _ _ h => h) ?_
  rotate_left
  · intro w hSw
    go_simp
    with_reducible rfl
  try simp only [Act.put, List.setIfInBounds_toArray, List.set_cons_zero, List.set_cons_succ]
  refine Hand.held_take (i := 7) (d := 30) (v := ?_) rfl rfl (by kernel_rfl) (by kernel_rfl) (by kernel_rfl) (by rfl) ?_ (by assumption) (fun _ _ _ h => h) ?_
  rotate_left
  · intro w hSw
    go_simp
    with_reducible rfl
  try simp only [Act.put, List.setIfInBounds_toArray, List.set_cons_zero, List.set_cons_succ]
  refine Hand.held_take (i := 8) (d := 31) (v := ?_) rfl rfl (by kernel_rfl) (by kernel_rfl) (by kernel_rfl) (by rfl) ?_ (by assumption) (fun _ _ _ h => h) ?_
  rotate_left
  · intro w hSw
    go_simp
    with_reducible rfl
  try simp only [Act.put, List.setIfInBounds_toArray, List.set_cons_zero, List.set_cons_succ]
  refine Hand.held_take (i := 9) (d := 32) (v := ?_) rfl rfl (by kernel_rfl) (by kernel_rfl) (by kernel_rfl) (by rfl) ?_ (by assumption) (fun _ _ _ h => h) ?_
  rotate_left
  · intro w hSw
    go_simp
    with_reducible rfl
  try simp only [Act.put, List.setIfInBounds_toArray, List.set_cons_zero, List.set_cons_succ]
  refine Hand.held_take (i := 10) (d := 33) (v := ?_) rfl rfl (by kernel_rfl) (by kernel_rfl) (by kernel_rfl) (by rfl) ?_ (by assumption) (fun _ _ _ h => h) ?_
  rotate_left
  · intro w hSw
    go_simp
    with_reducible rfl
  try simp only [Act.put, List.setIfInBounds_toArray, List.set_cons_zero, List.set_cons_succ]
  refine Hand.held_take (i := 11) (d := 34) (v := ?_) rfl rfl (by kernel_rfl) (by kernel_rfl) (by kernel_rfl) (by rfl) ?_ (by assumption) (fun _ _ _ h => h) ?_
  rotate_left
  · intro w hSw
    go_simp
    with_reducible rfl
  try simp only [Act.put, List.setIfInBounds_toArray, List.set_cons_zero, List.set_cons_succ]
  refine Hand.held_take (i := 12) (d := 35) (v := ?_) rfl rfl (by kernel_rfl) (by kernel_rfl) (by kernel_rfl) (by rfl) ?_ (by assumption) (fun _ _ _ h => h) ?_
  rotate_left
  · intro w hSw
    go_simp
    with_reducible rfl
  try simp only [Act.put, List.setIfInBounds_toArray, List.set_cons_zero, List.set_cons_succ]
  refine Hand.held_take (i := 13) (d := 36) (v := ?_) rfl rfl (by kernel_rfl) (by kernel_rfl) (by kernel_rfl) (by rfl) ?_ (by assumption) (fun _ _ _ h => h) ?_
  rotate_left
  · intro w hSw
    go_simp
    with_reducible rfl
  try simp only [Act.put, List.setIfInBounds_toArray, List.set_cons_zero, List.set_cons_succ]
  refine Hand.held_take (i := 14) (d := 37) (v := ?_) rfl rfl (by kernel_rfl) (by kernel_rfl) (by kernel_rfl) (by rfl) ?_ (by assumption) (fun _ _ _ h => h) ?_
  rotate_left
  · intro w hSw
    go_simp
    with_reducible rfl
  try simp only [Act.put, List.setIfInBounds_toArray, List.set_cons_zero, List.set_cons_succ]
  refine Hand.held_take (i := 15) (d := 38) (v := ?_) rfl rfl (by kernel_rfl) (by kernel_rfl) (by kernel_rfl) (by rfl) ?_ (by assumption) (fun _ _ _ h => h) ?_
  rotate_left
  · intro w hSw
    go_simp
    with_reducible rfl
  try simp only [Act.put, List.setIfInBounds_toArray, List.set_cons_zero, List.set_cons_succ]
  refine Hand.held_take (i := 16) (d := 39) (v := ?_) rfl rfl (by kernel_rfl) (by kernel_rfl) (by kernel_rfl) (by rfl) ?_ (by assumption) (fun _ _ _ h => h) ?_
  rotate_left
  · intro w hSw
    go_simp
    with_reducible rfl
  try simp only [Act.put, List.setIfInBounds_toArray, List.set_cons_zero, List.set_cons_succ]
  refine Hand.held_take (i := 17) (d := 40) (v := ?_) rfl rfl (by kernel_rfl) (by kernel_rfl) (by kernel_rfl) (by rfl) ?_ (by assumption) (fun _ _ _ h => h) ?_
  rotate_left
  · intro w hSw
    go_simp
    with_reducible rfl
  try simp only [Act.put, List.setIfInBounds_toArray, List.set_cons_zero, List.set_cons_succ]
  refine Hand.held_take (i := 18) (d := 41) (v := ?_) rfl rfl (by kernel_rfl) (by kernel_rfl) (by kernel_rfl) (by rfl) ?_ (by assumption) (fun _ _ _ h => h) ?_
  rotate_left
  · intro w hSw
    go_simp
    with_reducible rfl
  try simp only [Act.put, List.setIfInBounds_toArray, List.set_cons_zero, List.set_cons_succ]
  refine Hand.held_take (i := 19) (d := 42) (v := ?_) rfl rfl (by kernel_rfl) (by kernel_rfl) (by kernel_rfl) (by rfl) ?_ (by assumption) (fun _ _ _ h => h) ?_
  rotate_left
  · intro w hSw
    go_simp
    with_reducible rfl
  try simp only [Act.put, List.setIfInBounds_toArray, List.set_cons_zero, List.set_cons_succ]
  refine Hand.held_take (i := 20) (d := 4) (v := ?_) rfl rfl (by kernel_rfl) (by kernel_rfl) (by kernel_rfl) (by rfl) ?_ (by assumption) (fun _ _ _ h => h) ?_
  rotate_left
  · intro w hSw
    go_simp
    with_reducible rfl
  try simp only [Act.put, List.setIfInBounds_toArray, List.set_cons_zero, List.set_cons_succ]
  refine wpAnyH_done (by kernel_rfl) ?_ _
  clear hHeld
  go_wp2
  go_ret
  exact ⟨by simp, HB5.out⟩

theorem own : ownKnob Try.prog.godebug = none := by kernel_rfl
theorem laid : laidOutB Try.prog = true := by kernel_rfl
theorem one8 : Try.prog.cellsOf 5 = 1 := by kernel_rfl

set_option maxRecDepth 100000 in
theorem lifted (os : Os) (started : os.Started) (H : Type) (enc : TypeId × Value → H) :
    ReturnsInHanded {} Try.checked os 3 .any (Rows.oobPacksSpec.pre6 enc Try.prog Try.f3 Rows.oobPacksRow.domain false) (Rows.oobPacksSpec.post enc Try.prog Try.f3 false true false false) := by
  refine returnsInHanded_of_change (C := Try.checked) own started (by kernel_rfl) Try.func3
    (ChangeSpec.witness6 (enc := enc) (C := Try.checked) false ⟨#[], #[.agg #[.int .i64 0, .int .i64 0, .int .i64 0], .slice none 0 0], []⟩ 8 (by kernel_rfl) (by kernel_rfl) (by kernel_rfl) (by kernel_rfl)) ?_
  intro W base args ds gs before hval0 hW _ _
  have hval : ∀ (j : Nat) t v, Try.f3.params[j]? = some t → args[j]? = some v → Value.okWide Try.prog W .any base t v := hval0
  have hW' := hW
  obtain ⟨p, q, hA0, hV, rfl, hfz, hnd⟩ := hW
  have hA : DataW.TrodAll enc Try.prog W 0 (fun _ => true) true Try.f3.params.toList args.toList ds p := hA0
  rw [Try.params3] at hA hval
  obtain ⟨v0, v1, d0, d1, p0, p1, rfl, rfl, rfl, h0, h1⟩ := trodAll_two hA
  obtain ⟨k0, l0, s0, rfl⟩ := open_oob Try.underlying23 rfl (by kernel_rfl) (by kernel_rfl) (hval 0 23 v0 rfl rfl) h0
  obtain ⟨A1, n1, c1, xs1, rfl, hnc1, hcm1, hr1⟩ := open_bytes Try.underlying24 Try.underlying5 one8 (hval 1 24 v1 rfl rfl) h1
  refine (walk k0 l0 s0 A1 n1 c1 xs1 W hnc1 hcm1 hr1).mono fun e W' ⟨he, hb⟩ => ?_
  subst he
  exact ⟨_, rfl, Law.post laid (by kernel_rfl) (by kernel_rfl) Try.underlying4 rfl hW' rfl hb⟩

theorem proved : Rows.OobPacksSaid :=
  OpenClaim.holds_of_wide 3 Try.f3 rfl rfl rfl rfl rfl rfl rfl ⟨rfl, rfl, rfl, rfl, rfl⟩ rfl rfl rfl rfl rfl (by kernel_rfl) Try.func3 (by kernel_rfl)
    (of_decide_eq_true (by kernel_rfl)) (by unfold Func.isWrapper; first | (rw [if_pos (by decide +kernel)]; kernel_rfl) | (rw [if_neg (by decide +kernel)]; exact ⟨rfl, rfl⟩))
    (fun os started H enc _ => lifted os started H enc)

end Go.Proofs.Ytmngleepfcndgaa.oobPacks
