/-
  MarkSectors: for every mark the law answers true. No condition.
-/
import Derived.Test.YtbdompmhgjkgbaaMarkRef
namespace Go.Proofs.Ytbdompmhgjkgbaa.markSectors
open Go.ChangeShapes Go.WideShapes Go.ChangeAt Go.RowKit Go.Proofs.Ytbdompmhgjkgbaa.OobPkg Go.Proofs.Ytbdompmhgjkgbaa.MarkPkg
set_option maxRecDepth 4000

/-- What Sector tells: the bytes, the error. -/
def secs (l r s : Int) : List UInt8 × Int := if Mark.Ok l r s then (Mark.code l r s, 0) else ([], 1)

/-- What Oob tells: kind, place, stamp, the error. -/
def oobs (l r s : Int) : Int × Int × Int × Int := if Mark.Ok l r s then (4, l, s, 0) else (0, 0, 0, 1)

theorem Sector_gen (l r s : Int) (w : World) :
    Calls Try.prog 9 #[tri l r s] w fun e w' => ∃ A' n' c', e = .returned (.tuple #[.slice A' n' c', .int .i64 (secs l r s).2]) ∧ Bytes w' w'.heap.size A' n' (secs l r s).1 ∧ Below w.heap.size w w' := by
  by_cases h : Mark.Ok l r s
  · have e : secs l r s = (Mark.code l r s, 0) := if_pos h
    rw [e]
    refine (Sector_ok h w).mono ?_
    rintro e w' ⟨A', rfl, hr', hb⟩
    exact ⟨A', 16, _, rfl, hr', hb⟩
  · have e : secs l r s = ([], 1) := if_neg h
    rw [e]
    refine (Sector_bad h w).mono ?_
    rintro e w' ⟨rfl, hb⟩
    exact ⟨none, 0, 0, rfl, ⟨rfl, fun i hi => absurd hi (by simp)⟩, hb⟩

theorem Oob_gen (l r s : Int) (w : World) :
    Calls Try.prog 11 #[tri l r s] w fun e w' => e = .returned (.tuple #[tri (oobs l r s).1 (oobs l r s).2.1 (oobs l r s).2.2.1, .int .i64 (oobs l r s).2.2.2]) ∧ Below w.heap.size w w' := by
  by_cases h : Mark.Ok l r s
  · have e : oobs l r s = (4, l, s, 0) := if_pos h
    rw [e]
    exact Oob_ok h w
  · have e : oobs l r s = (0, 0, 0, 1) := if_neg h
    rw [e]
    exact Oob_bad h w

theorem rSector_gen (l r s : Int) (w : World) :
    Calls Try.prog 10 #[tri l r s] w fun e w' => ∃ A' n' c', e = .returned (.tuple #[.slice A' n' c', .int .i64 (secs l r s).2]) ∧ Bytes w' w'.heap.size A' n' (secs l r s).1 ∧ Below w.heap.size w w' := by
  by_cases h : Mark.Ok l r s
  · have e : secs l r s = (Mark.code l r s, 0) := if_pos h
    rw [e]
    refine (rSector_ok h w).mono ?_
    rintro e w' ⟨A', c', rfl, hr', hb⟩
    exact ⟨A', 16, _, rfl, hr', hb⟩
  · have e : secs l r s = ([], 1) := if_neg h
    rw [e]
    refine (rSector_bad h w).mono ?_
    rintro e w' ⟨rfl, hb⟩
    exact ⟨none, 0, 0, rfl, ⟨rfl, fun i hi => absurd hi (by simp)⟩, hb⟩

theorem rOob_gen (l r s : Int) (w : World) :
    Calls Try.prog 12 #[tri l r s] w fun e w' => e = .returned (.tuple #[tri (oobs l r s).1 (oobs l r s).2.1 (oobs l r s).2.2.1, .int .i64 (oobs l r s).2.2.2]) ∧ Below w.heap.size w w' := by
  by_cases h : Mark.Ok l r s
  · have e : oobs l r s = (4, l, s, 0) := if_pos h
    rw [e]
    exact rOob_ok h w
  · have e : oobs l r s = (0, 0, 0, 1) := if_neg h
    rw [e]
    exact rOob_bad h w

set_option maxHeartbeats 2000000 in
theorem walk (l r s : Int) (w : World) :
    Calls Try.prog 3 #[tri l r s] w fun e w' => e = .returned (.bool true) ∧ Below w.heap.size w w' := by
  have HB := Lib.hid ((Below.refl w.heap.size w).alloc (Nat.le_refl _) (.cells #[.int .i64 l, .int .i64 r, .int .i64 s] 23))
  have H1 := Lib.hid (Three.new 23 w l r s)
  have hp := fun w' => Sector_gen l r s w'
  have hq := fun w' => rSector_gen l r s w'
  generalize secs l r s = q at hp hq
  obtain ⟨u, z⟩ := q
  have ho := fun w' => Oob_gen l r s w'
  have hro := fun w' => rOob_gen l r s w'
  generalize oobs l r s = q at ho hro
  obtain ⟨ok, ol, os, oz⟩ := q
  have hr1 := fun w => MarkPkg.right_any l r s w
  have hr2 := fun w => rright_any l r s w
  generalize decide (Mark.Ok l r s) = rt at hr1 hr2
  have HP := Lib.hid hp
  have HQ := Lib.hid hq
  have HO := Lib.hid ho
  have HRO := Lib.hid hro
  have HR1 := Lib.hid hr1
  have HR2 := Lib.hid hr2
  clear hp hq hr1 hr2 ho hro
  go_enter Try.func3, Try.ntmps3
  go_wp2_with fail
  refine (awake_any _).mono ?_
  rintro e w1 ⟨rfl, hb⟩
  replace HB := Lib.hid (below_on HB.out hb)
  replace H1 := Lib.hid (H1.out.keep hb)
  clear hb
  have c0 := H1.out.c0
  have c1 := H1.out.c1
  have c2 := H1.out.c2
  go_wp2_with fail
  refine (HP.out w1).mono ?_
  rintro e w2 ⟨A2, n2, c3, rfl, hr2, hb⟩
  replace HB := Lib.hid (below_on HB.out hb)
  replace H1 := Lib.hid (H1.out.keep hb)
  have HRa := Lib.hid hr2
  clear hb hr2 c0 c1 c2
  have c0 := H1.out.c0
  have c1 := H1.out.c1
  have c2 := H1.out.c2
  go_wp2_with fail
  refine (HQ.out w2).mono ?_
  rintro e w3 ⟨A4, n4, c4, rfl, hr4, hb⟩
  replace HB := Lib.hid (below_on HB.out hb)
  replace H1 := Lib.hid (H1.out.keep hb)
  replace HRa := Lib.hid (bytes_more (bytes_keep HRa.out hb) hb.size)
  have HRb := Lib.hid hr4
  clear hb hr4 c0 c1 c2
  have c0 := H1.out.c0
  have c1 := H1.out.c1
  have c2 := H1.out.c2
  go_wp2_with fail
  refine (HO.out w3).mono ?_
  rintro e w4 ⟨rfl, hb⟩
  replace HB := Lib.hid (below_on HB.out hb)
  have HOA := Lib.hid (Three.new 30 w4 ok ol os)
  replace H1 := Lib.hid (H1.out.keep (hb.alloc hb.size (.cells #[.int .i64 ok, .int .i64 ol, .int .i64 os] 30)))
  replace HRa := Lib.hid (bytes_more (bytes_keep HRa.out (hb.alloc hb.size (.cells #[.int .i64 ok, .int .i64 ol, .int .i64 os] 30))) (hb.alloc hb.size (.cells #[.int .i64 ok, .int .i64 ol, .int .i64 os] 30)).size)
  replace HRb := Lib.hid (bytes_more (bytes_keep HRb.out (hb.alloc hb.size (.cells #[.int .i64 ok, .int .i64 ol, .int .i64 os] 30))) (hb.alloc hb.size (.cells #[.int .i64 ok, .int .i64 ol, .int .i64 os] 30)).size)
  replace HB := Lib.hid (HB.out.alloc HB.out.size (.cells #[.int .i64 ok, .int .i64 ol, .int .i64 os] 30))
  clear hb c0 c1 c2
  go_upto_region 5 with fail
  refine at_world ?_
  intro w5 hw
  rw [← hw] at HOA H1 HRa HRb HB
  clear hw
  generalize w4.heap.size = go at HOA ⊢
  have c0 := H1.out.c0
  have c1 := H1.out.c1
  have c2 := H1.out.c2
  go_wp2_with fail
  refine (HRO.out w5).mono ?_
  rintro e w6 ⟨rfl, hb⟩
  replace HB := Lib.hid (below_on HB.out hb)
  have HOB := Lib.hid (Three.new 30 w6 ok ol os)
  replace H1 := Lib.hid (H1.out.keep (hb.alloc hb.size (.cells #[.int .i64 ok, .int .i64 ol, .int .i64 os] 30)))
  replace HOA := Lib.hid (HOA.out.keep (hb.alloc hb.size (.cells #[.int .i64 ok, .int .i64 ol, .int .i64 os] 30)))
  replace HRa := Lib.hid (bytes_more (bytes_keep HRa.out (hb.alloc hb.size (.cells #[.int .i64 ok, .int .i64 ol, .int .i64 os] 30))) (hb.alloc hb.size (.cells #[.int .i64 ok, .int .i64 ol, .int .i64 os] 30)).size)
  replace HRb := Lib.hid (bytes_more (bytes_keep HRb.out (hb.alloc hb.size (.cells #[.int .i64 ok, .int .i64 ol, .int .i64 os] 30))) (hb.alloc hb.size (.cells #[.int .i64 ok, .int .i64 ol, .int .i64 os] 30)).size)
  replace HB := Lib.hid (HB.out.alloc HB.out.size (.cells #[.int .i64 ok, .int .i64 ol, .int .i64 os] 30))
  clear hb c0 c1 c2
  go_upto_region 6 with fail
  refine at_world ?_
  intro w7 hw
  rw [← hw] at HOB H1 HOA HRa HRb HB
  clear hw
  generalize w6.heap.size = gp at HOB ⊢
  have hqq := str_eq (rfl : u = u)
  clear HP HQ HO HRO
  refine wp_region_held_drew (S := (fun w' => w'.cell? ⟨w.heap.size, 0, none⟩ = some (.int .i64 l) ∧ w'.cell? ⟨w.heap.size, 1, none⟩ = some (.int .i64 r) ∧ w'.cell? ⟨w.heap.size, 2, none⟩ = some (.int .i64 s) ∧ w'.cell? ⟨go, 0, none⟩ = some (.int .i64 ok) ∧ w'.cell? ⟨go, 1, none⟩ = some (.int .i64 ol) ∧ w'.cell? ⟨go, 2, none⟩ = some (.int .i64 os) ∧ w'.cell? ⟨gp, 0, none⟩ = some (.int .i64 ok) ∧ w'.cell? ⟨gp, 1, none⟩ = some (.int .i64 ol) ∧ w'.cell? ⟨gp, 2, none⟩ = some (.int .i64 os) ∧ (convert 25 9 (.slice A2 n2 c3)).run Try.prog w' = .ok (.string (str u)) w' ∧ (convert 25 9 (.slice A4 n4 c4)).run Try.prog w' = .ok (.string (str u)) w')) (by kernel_rfl) ?_ (fun hHeld => ?_)
  · exact ⟨H1.out.c0, H1.out.c1, H1.out.c2, HOA.out.c0, HOA.out.c1, HOA.out.c2, HOB.out.c0, HOB.out.c1, HOB.out.c2, run_str (P := Try.prog) w7.drew 25 9 5 Try.underlying25 Try.underlying5 Try.underlying9 (c := c3) HRa.out, run_str (P := Try.prog) w7.drew 25 9 5 Try.underlying25 Try.underlying5 Try.underlying9 (c := c4) HRb.out⟩
  refine Hand.held_take (i := 0) (d := 33) (v := ?_) rfl rfl (by kernel_rfl) (by kernel_rfl) (by kernel_rfl) (by rfl) ?_ (by assumption) (fun _ _ _ h => h) ?_
  rotate_left
  · intro w hSw
    go_simp
    with_reducible rfl
  try simp only [Act.put, List.setIfInBounds_toArray, List.set_cons_zero, List.set_cons_succ]
  refine Hand.held_take (i := 1) (d := 34) (v := ?_) rfl rfl (by kernel_rfl) (by kernel_rfl) (by kernel_rfl) (by rfl) ?_ (by assumption) (fun _ _ _ h => h) ?_
  rotate_left
  · intro w hSw
    go_simp
    with_reducible rfl
  try simp only [Act.put, List.setIfInBounds_toArray, List.set_cons_zero, List.set_cons_succ]
  refine Hand.held_take (i := 2) (d := 35) (v := ?_) rfl rfl (by kernel_rfl) (by kernel_rfl) (by kernel_rfl) (by rfl) ?_ (by assumption) (fun _ _ _ h => h) ?_
  rotate_left
  · intro w hSw
    go_simp
    with_reducible rfl
  try simp only [Act.put, List.setIfInBounds_toArray, List.set_cons_zero, List.set_cons_succ]
  refine Hand.held_take (i := 4) (d := 37) (v := ?_) rfl rfl (by kernel_rfl) (by kernel_rfl) (by kernel_rfl) (by rfl) ?_ (by assumption) (fun _ _ _ h => h) ?_
  rotate_left
  · intro w hSw
    go_simp
    with_reducible rfl
  try simp only [Act.put, List.setIfInBounds_toArray, List.set_cons_zero, List.set_cons_succ]
  refine wpAnyH_ready (rs := [3]) (by kernel_rfl) (by simp) ?_
  refine AllReadyH.cons rfl (fun K hK => ?_) AllReadyH.nil
  go_simp
  go_wp2_with (go_at_call 13; refine (HR1.out _).mono ?_; rintro e w8 ⟨rfl, hb⟩; have H18 := Lib.hid (H1.out.keepd hb); have HOA8 := Lib.hid (HOA.out.keepd hb); have HOB8 := Lib.hid (HOB.out.keepd hb); have HB8 := Lib.hid (below_on HB.out.drew hb); have HRa8 := Lib.hid (bytes_more (bytes_keep HRa.out (below_ond (Below.refl _ _) (Nat.le_refl _) hb)) hb.size); have HRb8 := Lib.hid (bytes_more (bytes_keep HRb.out (below_ond (Below.refl _ _) (Nat.le_refl _) hb)) hb.size))
  refine hK.out _ _ ?_ (fun hHeld => ?_)
  · exact ⟨H18.out.c0, H18.out.c1, H18.out.c2, HOA8.out.c0, HOA8.out.c1, HOA8.out.c2, HOB8.out.c0, HOB8.out.c1, HOB8.out.c2, run_str (P := Try.prog) w8 25 9 5 Try.underlying25 Try.underlying5 Try.underlying9 (c := c3) HRa8.out, run_str (P := Try.prog) w8 25 9 5 Try.underlying25 Try.underlying5 Try.underlying9 (c := c4) HRb8.out⟩
  clear hK K
  clear hb
  refine wpAnyH_ready (rs := [5]) (by kernel_rfl) (by simp) ?_
  refine AllReadyH.cons rfl (fun K hK => ?_) AllReadyH.nil
  go_simp
  go_wp2_with (go_at_call 14; refine (HR2.out _).mono ?_; rintro e w9 ⟨rfl, hb⟩; have H19 := Lib.hid (H18.out.keep hb); have HOA9 := Lib.hid (HOA8.out.keep hb); have HOB9 := Lib.hid (HOB8.out.keep hb); have HB9 := Lib.hid (below_on HB8.out hb); have HRa9 := Lib.hid (bytes_more (bytes_keep HRa8.out hb) hb.size); have HRb9 := Lib.hid (bytes_more (bytes_keep HRb8.out hb) hb.size))
  refine hK.out _ _ ?_ (fun hHeld => ?_)
  · exact ⟨H19.out.c0, H19.out.c1, H19.out.c2, HOA9.out.c0, HOA9.out.c1, HOA9.out.c2, HOB9.out.c0, HOB9.out.c1, HOB9.out.c2, run_str (P := Try.prog) w9 25 9 5 Try.underlying25 Try.underlying5 Try.underlying9 (c := c3) HRa9.out, run_str (P := Try.prog) w9 25 9 5 Try.underlying25 Try.underlying5 Try.underlying9 (c := c4) HRb9.out⟩
  clear hK K
  clear hb
  refine Hand.held_take (i := 6) (d := 39) (v := ?_) rfl rfl (by kernel_rfl) (by kernel_rfl) (by kernel_rfl) (by rfl) ?_ (by assumption) (fun _ _ _ h => h) ?_
  rotate_left
  · intro w hSw
    go_simp
    with_reducible rfl
  try simp only [Act.put, List.setIfInBounds_toArray, List.set_cons_zero, List.set_cons_succ]
  refine Hand.held_take (i := 7) (d := 40) (v := ?_) rfl rfl (by kernel_rfl) (by kernel_rfl) (by kernel_rfl) (by rfl) ?_ (by assumption) (fun _ _ _ h => h) ?_
  rotate_left
  · intro w hSw
    go_simp
    with_reducible rfl
  try simp only [Act.put, List.setIfInBounds_toArray, List.set_cons_zero, List.set_cons_succ]
  refine Hand.held_take (i := 8) (d := 41) (v := ?_) rfl rfl (by kernel_rfl) (by kernel_rfl) (by kernel_rfl) (by rfl) ?_ (by assumption) (fun _ _ _ h => h) ?_
  rotate_left
  · intro w hSw
    go_simp
    with_reducible rfl
  try simp only [Act.put, List.setIfInBounds_toArray, List.set_cons_zero, List.set_cons_succ]
  refine Hand.held_take (i := 9) (d := 42) (v := ?_) rfl rfl (by kernel_rfl) (by kernel_rfl) (by kernel_rfl) (by rfl) ?_ (by assumption) (fun _ _ _ h => h) ?_
  rotate_left
  · intro w hSw
    go_simp
    with_reducible rfl
  try simp only [Act.put, List.setIfInBounds_toArray, List.set_cons_zero, List.set_cons_succ]
  refine Hand.held_take (i := 10) (d := 43) (v := ?_) rfl rfl (by kernel_rfl) (by kernel_rfl) (by kernel_rfl) (by rfl) ?_ (by assumption) (fun _ _ _ h => h) ?_
  rotate_left
  · intro w hSw
    go_simp
    with_reducible rfl
  try simp only [Act.put, List.setIfInBounds_toArray, List.set_cons_zero, List.set_cons_succ]
  refine Hand.held_take (i := 11) (d := 44) (v := ?_) rfl rfl (by kernel_rfl) (by kernel_rfl) (by kernel_rfl) (by rfl) ?_ (by assumption) (fun _ _ _ h => h) ?_
  rotate_left
  · intro w hSw
    go_simp
    with_reducible rfl
  try simp only [Act.put, List.setIfInBounds_toArray, List.set_cons_zero, List.set_cons_succ]
  refine Hand.held_take (i := 12) (d := 45) (v := ?_) rfl rfl (by kernel_rfl) (by kernel_rfl) (by kernel_rfl) (by rfl) ?_ (by assumption) (fun _ _ _ h => h) ?_
  rotate_left
  · intro w hSw
    go_simp
    with_reducible rfl
  try simp only [Act.put, List.setIfInBounds_toArray, List.set_cons_zero, List.set_cons_succ]
  refine Hand.held_take (i := 13) (d := 46) (v := ?_) rfl rfl (by kernel_rfl) (by kernel_rfl) (by kernel_rfl) (by rfl) ?_ (by assumption) (fun _ _ _ h => h) ?_
  rotate_left
  · intro w hSw
    go_simp
    with_reducible rfl
  try simp only [Act.put, List.setIfInBounds_toArray, List.set_cons_zero, List.set_cons_succ]
  refine Hand.held_take (i := 14) (d := 47) (v := ?_) rfl rfl (by kernel_rfl) (by kernel_rfl) (by kernel_rfl) (by rfl) ?_ (by assumption) (fun _ _ _ h => h) ?_
  rotate_left
  · intro w hSw
    go_simp
    with_reducible rfl
  try simp only [Act.put, List.setIfInBounds_toArray, List.set_cons_zero, List.set_cons_succ]
  refine Hand.held_take (i := 15) (d := 48) (v := ?_) rfl rfl (by kernel_rfl) (by kernel_rfl) (by kernel_rfl) (by rfl) ?_ (by assumption) (fun _ _ _ h => h) ?_
  rotate_left
  · intro w hSw
    go_simp
    with_reducible rfl
  try simp only [Act.put, List.setIfInBounds_toArray, List.set_cons_zero, List.set_cons_succ]
  refine Hand.held_take (i := 16) (d := 49) (v := ?_) rfl rfl (by kernel_rfl) (by kernel_rfl) (by kernel_rfl) (by rfl) ?_ (by assumption) (fun _ _ _ h => h) ?_
  rotate_left
  · intro w hSw
    go_simp
    with_reducible rfl
  try simp only [Act.put, List.setIfInBounds_toArray, List.set_cons_zero, List.set_cons_succ]
  refine Hand.held_take (i := 17) (d := 50) (v := ?_) rfl rfl (by kernel_rfl) (by kernel_rfl) (by kernel_rfl) (by rfl) ?_ (by assumption) (fun _ _ _ h => h) ?_
  rotate_left
  · intro w hSw
    go_simp
    with_reducible rfl
  try simp only [Act.put, List.setIfInBounds_toArray, List.set_cons_zero, List.set_cons_succ]
  refine Hand.held_take (i := 18) (d := 51) (v := ?_) rfl rfl (by kernel_rfl) (by kernel_rfl) (by kernel_rfl) (by rfl) ?_ (by assumption) (fun _ _ _ h => h) ?_
  rotate_left
  · intro w hSw
    go_simp
    with_reducible rfl
  try simp only [Act.put, List.setIfInBounds_toArray, List.set_cons_zero, List.set_cons_succ]
  refine Hand.held_take (i := 19) (d := 52) (v := ?_) rfl rfl (by kernel_rfl) (by kernel_rfl) (by kernel_rfl) (by rfl) ?_ (by assumption) (fun _ _ _ h => h) ?_
  rotate_left
  · intro w hSw
    go_simp
    with_reducible rfl
  try simp only [Act.put, List.setIfInBounds_toArray, List.set_cons_zero, List.set_cons_succ]
  refine Hand.held_take (i := 20) (d := 53) (v := ?_) rfl rfl (by kernel_rfl) (by kernel_rfl) (by kernel_rfl) (by rfl) ?_ (by assumption) (fun _ _ _ h => h) ?_
  rotate_left
  · intro w hSw
    go_simp
    with_reducible rfl
  try simp only [Act.put, List.setIfInBounds_toArray, List.set_cons_zero, List.set_cons_succ]
  refine Hand.held_take (i := 21) (d := 54) (v := ?_) rfl rfl (by kernel_rfl) (by kernel_rfl) (by kernel_rfl) (by rfl) ?_ (by assumption) (fun _ _ _ h => h) ?_
  rotate_left
  · intro w hSw
    go_simp
    with_reducible rfl
  try simp only [Act.put, List.setIfInBounds_toArray, List.set_cons_zero, List.set_cons_succ]
  refine Hand.held_take (i := 22) (d := 55) (v := ?_) rfl rfl (by kernel_rfl) (by kernel_rfl) (by kernel_rfl) (by rfl) ?_ (by assumption) (fun _ _ _ h => h) ?_
  rotate_left
  · intro w hSw
    go_simp
    with_reducible rfl
  try simp only [Act.put, List.setIfInBounds_toArray, List.set_cons_zero, List.set_cons_succ]
  refine Hand.held_take (i := 23) (d := 56) (v := ?_) rfl rfl (by kernel_rfl) (by kernel_rfl) (by kernel_rfl) (by rfl) ?_ (by assumption) (fun _ _ _ h => h) ?_
  rotate_left
  · intro w hSw
    go_simp
    with_reducible rfl
  try simp only [Act.put, List.setIfInBounds_toArray, List.set_cons_zero, List.set_cons_succ]
  refine Hand.held_take (i := 24) (d := 57) (v := ?_) rfl rfl (by kernel_rfl) (by kernel_rfl) (by kernel_rfl) (by rfl) ?_ (by assumption) (fun _ _ _ h => h) ?_
  rotate_left
  · intro w hSw
    go_simp
    with_reducible rfl
  try simp only [Act.put, List.setIfInBounds_toArray, List.set_cons_zero, List.set_cons_succ]
  refine Hand.held_take (i := 25) (d := 58) (v := ?_) rfl rfl (by kernel_rfl) (by kernel_rfl) (by kernel_rfl) (by rfl) ?_ (by assumption) (fun _ _ _ h => h) ?_
  rotate_left
  · intro w hSw
    go_simp
    with_reducible rfl
  try simp only [Act.put, List.setIfInBounds_toArray, List.set_cons_zero, List.set_cons_succ]
  refine Hand.held_take (i := 26) (d := 59) (v := ?_) rfl rfl (by kernel_rfl) (by kernel_rfl) (by kernel_rfl) (by rfl) ?_ (by assumption) (fun _ _ _ h => h) ?_
  rotate_left
  · intro w hSw
    go_simp
    with_reducible rfl
  try simp only [Act.put, List.setIfInBounds_toArray, List.set_cons_zero, List.set_cons_succ]
  refine Hand.held_take (i := 27) (d := 60) (v := ?_) rfl rfl (by kernel_rfl) (by kernel_rfl) (by kernel_rfl) (by rfl) ?_ (by assumption) (fun _ _ _ h => h) ?_
  rotate_left
  · intro w hSw
    go_simp
    with_reducible rfl
  try simp only [Act.put, List.setIfInBounds_toArray, List.set_cons_zero, List.set_cons_succ]
  refine Hand.held_take (i := 28) (d := 61) (v := ?_) rfl rfl (by kernel_rfl) (by kernel_rfl) (by kernel_rfl) (by rfl) ?_ (by assumption) (fun _ _ _ h => h) ?_
  rotate_left
  · intro w hSw
    go_simp
    with_reducible rfl
  try simp only [Act.put, List.setIfInBounds_toArray, List.set_cons_zero, List.set_cons_succ]
  refine Hand.held_take (i := 29) (d := 62) (v := ?_) rfl rfl (by kernel_rfl) (by kernel_rfl) (by kernel_rfl) (by rfl) ?_ (by assumption) (fun _ _ _ h => h) ?_
  rotate_left
  · intro w hSw
    go_simp
    with_reducible rfl
  try simp only [Act.put, List.setIfInBounds_toArray, List.set_cons_zero, List.set_cons_succ]
  refine Hand.held_take (i := 30) (d := 2) (v := ?_) rfl rfl (by kernel_rfl) (by kernel_rfl) (by kernel_rfl) (by rfl) ?_ (by assumption) (fun _ _ _ h => h) ?_
  rotate_left
  · intro w hSw
    go_simp
    with_reducible rfl
  try simp only [Act.put, List.setIfInBounds_toArray, List.set_cons_zero, List.set_cons_succ]
  refine wpAnyH_done (by kernel_rfl) ?_ _
  clear hHeld
  go_wp2
  go_ret
  exact ⟨by simp, HB9.out⟩

theorem own : ownKnob Try.prog.godebug = none := by kernel_rfl
theorem laid : laidOutB Try.prog = true := by kernel_rfl

set_option maxRecDepth 100000 in
theorem lifted (os : Os) (started : os.Started) (H : Type) (enc : TypeId × Value → H) :
    ReturnsInHanded {} Try.checked os 3 .any (Rows.markSectorsSpec.pre6 enc Try.prog Try.f3 Rows.markSectorsRow.domain false) (Rows.markSectorsSpec.post enc Try.prog Try.f3 false true false false) := by
  refine returnsInHanded_of_change (C := Try.checked) own started (by kernel_rfl) Try.func3
    (ChangeSpec.witness6 (enc := enc) (C := Try.checked) false ⟨#[], #[.agg #[.int .i64 0, .int .i64 0, .int .i64 0]], []⟩ 8 (by kernel_rfl) (by kernel_rfl) (by kernel_rfl) (by kernel_rfl)) ?_
  intro W base args ds gs before hval0 hW _ _
  have hval : ∀ (j : Nat) t v, Try.f3.params[j]? = some t → args[j]? = some v → Value.okWide Try.prog W .any base t v := hval0
  have hW' := hW
  obtain ⟨p, q, hA0, hV, rfl, hfz, hnd⟩ := hW
  have hA : DataW.TrodAll enc Try.prog W 0 (fun _ => true) true Try.f3.params.toList args.toList ds p := hA0
  rw [Try.params3] at hA hval
  obtain ⟨v0, d0, rfl, rfl, h0⟩ := trodAll_one hA
  obtain ⟨k0, l0, s0, rfl⟩ := open_oob Try.underlying23 rfl (by kernel_rfl) (by kernel_rfl) (hval 0 23 v0 rfl rfl) h0
  refine (walk k0 l0 s0 W ).mono fun e W' ⟨he, hb⟩ => ?_
  subst he
  exact ⟨_, rfl, Law.post laid (by kernel_rfl) (by kernel_rfl) Try.underlying4 rfl hW' rfl hb⟩

theorem proved : Rows.MarkSectorsSaid :=
  OpenClaim.holds_of_wide 3 Try.f3 rfl rfl rfl rfl rfl rfl rfl ⟨rfl, rfl, rfl, rfl, rfl⟩ rfl rfl rfl rfl rfl (by kernel_rfl) Try.func3 (by kernel_rfl)
    (of_decide_eq_true (by kernel_rfl)) (by unfold Func.isWrapper; first | (rw [if_pos (by decide +kernel)]; kernel_rfl) | (rw [if_neg (by decide +kernel)]; exact ⟨rfl, rfl⟩))
    (fun os started H enc _ => lifted os started H enc)

end Go.Proofs.Ytbdompmhgjkgbaa.markSectors
