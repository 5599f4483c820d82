/-
  What each function of package mark does, the fourth part: Sector, Oob.
-/
import Derived.Test.YteonjdigcecceaaMarkEnc
namespace Go.Proofs.Yteonjdigcecceaa.MarkPkg
open Go.RowKit Go.Proofs.Yteonjdigcecceaa.OobPkg
set_option maxRecDepth 4000
attribute [-go_sem] loadCellsFrom storeCells

theorem right_yes {l r s : Int} (h : Mark.Ok l r s) (w : World) : Calls Try.prog 45 #[tri l r s] w fun e w' => e = .returned (.bool true) ∧ Below w.heap.size w w' := by
  have := right_any l r s w
  rwa [decide_eq_true h] at this

theorem right_no {l r s : Int} (h : ¬ Mark.Ok l r s) (w : World) : Calls Try.prog 45 #[tri l r s] w fun e w' => e = .returned (.bool false) ∧ Below w.heap.size w w' := by
  have := right_any l r s w
  rwa [decide_eq_false h] at this

theorem Sector_bad {l r s : Int} (h : ¬ Mark.Ok l r s) (w : World) :
    Calls Try.prog 28 #[tri l r s] w fun e w' => e = .returned (.tuple #[.slice none 0 0, .int .i64 1]) ∧ Below w.heap.size w w' := by
  have HB := Lib.hid ((Below.refl w.heap.size w).alloc (Nat.le_refl _) (.cells #[.int .i64 l, .int .i64 r, .int .i64 s] 33))
  have hld := (Three.new 33 w l r s).load (P := Try.prog)
  have HR := Lib.hid (fun w => right_no h w)
  clear h
  go_enter Try.func28, Try.ntmps28
  go_wp2_with fail
  refine (HR.out _).mono ?_
  rintro e w2 ⟨rfl, hb⟩
  have HB2 := Lib.hid (below_on HB.out hb)
  clear hb hld
  go_wp2
  go_ret2
  exact ⟨rfl, HB2.out⟩

theorem Sector_ok {l r s : Int} (h : Mark.Ok l r s) (w : World) :
    Calls Try.prog 28 #[tri l r s] w fun e w' => ∃ A', e = .returned (.tuple #[.slice A' 16 16, .int .i64 0]) ∧ Bytes w' w'.heap.size A' 16 (Mark.code l r s) ∧ Below w.heap.size w w' := by
  have HB := Lib.hid ((Below.refl w.heap.size w).alloc (Nat.le_refl _) (.cells #[.int .i64 l, .int .i64 r, .int .i64 s] 33))
  have HT := Lib.hid (Three.new 33 w l r s)
  have HR := Lib.hid (fun w => right_yes h w)
  obtain ⟨u, hu⟩ : ∃ u, u = Mark.code l r s := ⟨_, rfl⟩
  have hul : u.length = 16 := by rw [hu]; exact Mark.code_len ..
  obtain ⟨U, hU⟩ : ∃ U, U = (u.map cellOf).toArray := ⟨_, rfl⟩
  have hUs : U.size = 16 := by rw [hU]; simpa using hul
  have hp := fun w => encode_any l r s w h
  rw [← hu, ← hU] at hp
  have HP := Lib.hid hp
  have HUL := Lib.hid hul
  have HUU := Lib.hid hU
  have HU := Lib.hid hu
  clear hp hul hU hu h
  have hst : ∀ w2 : World, ∃ w', (storeCells ⟨w2.heap.size, 0, none⟩ U.toList).run Try.prog (w2.alloc (.cells #[.int .u8 0, .int .u8 0, .int .u8 0, .int .u8 0, .int .u8 0, .int .u8 0, .int .u8 0, .int .u8 0, .int .u8 0, .int .u8 0, .int .u8 0, .int .u8 0, .int .u8 0, .int .u8 0, .int .u8 0, .int .u8 0] 81)) = .ok () w' ∧ Arr w' w2.heap.size 81 u ∧ Below w2.heap.size w2 w' := by
    intro w2
    have ha := Arr.new w2 81 (List.replicate 16 0)
    obtain ⟨w', h1, h2, h3⟩ := run_store_arr (P := Try.prog) (ys := u) ha (by rw [HUL.out]; rfl)
    rw [← HUU.out] at h1
    exact ⟨w', h1, h2, ((Below.refl _ w2).alloc (Nat.le_refl _) _).trans h3⟩
  have HST := Lib.hid hst
  clear hst
  have hld := HT.out.load (P := Try.prog)
  go_enter Try.func28, Try.ntmps28
  go_wp2_with fail
  refine (HR.out _).mono ?_
  rintro e w2 ⟨rfl, hb⟩
  have HB2 := Lib.hid (below_on HB.out hb)
  have hld2 := (HT.out.keep hb).load (P := Try.prog)
  clear hb hld
  go_wp2_with fail
  refine (HP.out _).mono ?_
  rintro e w3 ⟨rfl, hb⟩
  have HB3 := Lib.hid (below_on HB2.out hb)
  obtain ⟨w4, hst, ha, hb4⟩ := HST.out w3
  have HA := Lib.hid ha
  have HB4 := Lib.hid (below_on HB3.out hb4)
  clear hb ha hb4 hld2
  go_wp2
  go_ret2
  refine ⟨_, rfl, ?_, HB4.out⟩
  have h := HA.out.bytes 0
  rw [HUL.out] at h
  rw [← HU.out]
  exact h

theorem Oob_bad {l r s : Int} (h : ¬ Mark.Ok l r s) (w : World) :
    Calls Try.prog 29 #[tri l r s] w fun e w' => e = .returned (.tuple #[tri 0 0 0, .int .i64 1]) ∧ Below w.heap.size w w' := by
  have HB := Lib.hid (show Below w.heap.size w ((w.alloc (.cells #[.int .i64 l, .int .i64 r, .int .i64 s] 33)).alloc (.cells #[.int .i64 0, .int .i64 0, .int .i64 0] 44)) from ((Below.refl w.heap.size w).alloc (Nat.le_refl _) _).alloc (by simp) _)
  have HT := Lib.hid (show Three 33 ((w.alloc (.cells #[.int .i64 l, .int .i64 r, .int .i64 s] 33)).alloc (.cells #[.int .i64 0, .int .i64 0, .int .i64 0] 44)) w.heap.size l r s from (Three.new 33 w l r s).old _)
  have HZ := Lib.hid (show Three 44 ((w.alloc (.cells #[.int .i64 l, .int .i64 r, .int .i64 s] 33)).alloc (.cells #[.int .i64 0, .int .i64 0, .int .i64 0] 44)) (w.heap.size + 1) 0 0 0 from Three.newAt (by simp) 0 0 0)
  have HR := Lib.hid (fun w => right_no h w)
  clear h
  have hld := HT.out.load (P := Try.prog)
  go_enter Try.func29, Try.ntmps29
  go_wp2_with fail
  refine (HR.out _).mono ?_
  rintro e w2 ⟨rfl, hb⟩
  have HB2 := Lib.hid (below_on HB.out hb)
  obtain ⟨w3, hst, ht, hb3⟩ := (HZ.out.keep hb).store Try.prog 0 0 0
  have hld3 := ht.load (P := Try.prog)
  have HB3 := Lib.hid (HB2.out.trans (hb3.mono (by omega)))
  clear hb hld ht hb3
  go_wp2
  refine bodyPost_ret (v := .tuple #[tri 0 0 0, .int .i64 1]) ?_ rfl ⟨rfl, HB3.out⟩
  simp [results, Try.results29, go_sem, hld3]

theorem Oob_ok {l r s : Int} (h : Mark.Ok l r s) (w : World) :
    Calls Try.prog 29 #[tri l r s] w fun e w' => e = .returned (.tuple #[tri 4 l s, .int .i64 0]) ∧ Below w.heap.size w w' := by
  have HB := Lib.hid (show Below w.heap.size w ((w.alloc (.cells #[.int .i64 l, .int .i64 r, .int .i64 s] 33)).alloc (.cells #[.int .i64 0, .int .i64 0, .int .i64 0] 44)) from ((Below.refl w.heap.size w).alloc (Nat.le_refl _) _).alloc (by simp) _)
  have HT := Lib.hid (show Three 33 ((w.alloc (.cells #[.int .i64 l, .int .i64 r, .int .i64 s] 33)).alloc (.cells #[.int .i64 0, .int .i64 0, .int .i64 0] 44)) w.heap.size l r s from (Three.new 33 w l r s).old _)
  have HZ := Lib.hid (show Three 44 ((w.alloc (.cells #[.int .i64 l, .int .i64 r, .int .i64 s] 33)).alloc (.cells #[.int .i64 0, .int .i64 0, .int .i64 0] 44)) (w.heap.size + 1) 0 0 0 from Three.newAt (by simp) 0 0 0)
  have HR := Lib.hid (fun w => right_yes h w)
  clear h
  have hld := HT.out.load (P := Try.prog)
  go_enter Try.func29, Try.ntmps29
  go_wp2_with fail
  refine (HR.out _).mono ?_
  rintro e w2 ⟨rfl, hb⟩
  have HB2 := Lib.hid (below_on HB.out hb)
  have hld2 := (HT.out.keep hb).load (P := Try.prog)
  have HZ2 := Lib.hid (HZ.out.keep hb)
  clear hb hld
  go_wp2_with fail
  refine (beside_any l r s _).mono ?_
  rintro e w4 ⟨rfl, hb⟩
  have HB4 := Lib.hid (below_on HB2.out hb)
  obtain ⟨w3, hst, ht, hb3⟩ := (HZ2.out.keep hb).store Try.prog 4 l s
  have hld3 := ht.load (P := Try.prog)
  have HB3 := Lib.hid (HB4.out.trans (hb3.mono (by omega)))
  clear hb hld2 ht hb3
  go_wp2
  refine bodyPost_ret (v := .tuple #[tri 4 l s, .int .i64 0]) ?_ rfl ⟨rfl, HB3.out⟩
  simp [results, Try.results29, go_sem, hld3]

end Go.Proofs.Yteonjdigcecceaa.MarkPkg
