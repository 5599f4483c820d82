/-
  What each function of package oob does, the third part: Pack, fixed, head.
-/
import Derived.Test.YteonjdigcecceaaOobPack1
namespace Go.Proofs.Yteonjdigcecceaa.OobPkg
open Go.RowKit
set_option maxRecDepth 4000

theorem Pack_bad (k l s : Int) (A : Option Addr) (n c : Nat) (w : World) (h : ¬ (Oob.Ok k l s ∧ n = 16)) :
    Calls Try.prog 40 #[oob k l s, .slice A n c] w fun e w' => e = .returned (.tuple #[.slice none 0 0, .int .i64 1]) ∧ Below w.heap.size w w' := by
  have HB := Lib.hid ((Below.refl w.heap.size w).alloc (Nat.le_refl _) (.cells #[.int .i64 k, .int .i64 l, .int .i64 s] 44))
  have hr := fun w => right_any k l s w
  by_cases hok : Oob.Ok k l s
  · simp only [decide_eq_true hok] at hr
    have hs := fun w => isSector_any A n c w
    simp only [decide_eq_false (show ¬ n = 16 from fun e => h ⟨hok, e⟩)] at hs
    have HRR := Lib.hid hr
    have HSS := Lib.hid hs
    clear hr hs h hok
    go_enter Try.func40, Try.ntmps40
    go_wp2_with fail
    refine (HRR.out _).mono ?_
    rintro e w2 ⟨rfl, hb⟩
    have HB2 := Lib.hid (below_on HB.out hb)
    clear hb
    go_wp2_with fail
    refine (HSS.out _).mono ?_
    rintro e w3 ⟨rfl, hw⟩; subst w3
    go_wp2
    go_ret2
    exact ⟨rfl, HB2.out⟩
  · simp only [decide_eq_false hok] at hr
    have HRR := Lib.hid hr
    clear hr h hok
    go_enter Try.func40, Try.ntmps40
    go_wp2_with fail
    refine (HRR.out _).mono ?_
    rintro e w2 ⟨rfl, hb⟩
    have HB2 := Lib.hid (below_on HB.out hb)
    clear hb
    go_wp2
    go_ret2
    exact ⟨rfl, HB2.out⟩

/-- What it hands back is a new block. -/
theorem Pack_new (k l s : Int) (A : Option Addr) (c : Nat) (d : List UInt8) (w : World) (hok : Oob.Ok k l s) (hr : Bytes w w.heap.size A 16 d) :
    Calls Try.prog 40 #[oob k l s, .slice A 16 c] w fun e w' => ∃ g, e = .returned (.tuple #[.slice (some ⟨g, 0, none⟩) 17 17, .int .i64 0]) ∧ w.heap.size ≤ g ∧ Arr w' g 70 (Oob.full k l s d) ∧ Below w.heap.size w w' := by
  have HB := Lib.hid ((Below.refl w.heap.size w).alloc (Nat.le_refl _) (.cells #[.int .i64 k, .int .i64 l, .int .i64 s] 44))
  have hrr := fun w => right_any k l s w
  simp only [decide_eq_true hok] at hrr
  have hs := fun w => isSector_any A 16 c w
  simp only [decide_true] at hs
  have HRR := Lib.hid hrr
  have HSS := Lib.hid hs
  have HOK := Lib.hid hok
  have HR := Lib.hid hr
  obtain ⟨u, hu⟩ : ∃ u, u = Oob.full k l s d := ⟨_, rfl⟩
  have hul : u.length = 17 := by rw [hu]; exact Oob.full_len ..
  obtain ⟨U, hU⟩ : ∃ U, U = (u.map cellOf).toArray := ⟨_, rfl⟩
  have hUs : U.size = 17 := by rw [hU]; simpa using hul
  have hp := fun w h => pack_any k l s A c d w hok h
  rw [← hu, ← hU] at hp
  have HP := Lib.hid hp
  have HUL := Lib.hid hul
  have HUU := Lib.hid hU
  have HU := Lib.hid hu
  clear hrr hs hok hr hp hul hU hu
  have hst : ∀ w2 : World, ∃ w', (storeCells ⟨w2.heap.size, 0, none⟩ U.toList).run Try.prog (w2.alloc (.cells #[.int .u8 0, .int .u8 0, .int .u8 0, .int .u8 0, .int .u8 0, .int .u8 0, .int .u8 0, .int .u8 0, .int .u8 0, .int .u8 0, .int .u8 0, .int .u8 0, .int .u8 0, .int .u8 0, .int .u8 0, .int .u8 0, .int .u8 0] 70)) = .ok () w' ∧ Arr w' w2.heap.size 70 u ∧ Below w2.heap.size w2 w' := by
    intro w2
    have ha := Arr.new w2 70 (List.replicate 17 0)
    obtain ⟨w', h1, h2, h3⟩ := run_store_arr (P := Try.prog) (ys := u) ha (by rw [HUL.out]; rfl)
    rw [← HUU.out] at h1
    exact ⟨w', h1, h2, ((Below.refl _ w2).alloc (Nat.le_refl _) _).trans h3⟩
  have HST := Lib.hid hst
  clear hst
  go_enter Try.func40, Try.ntmps40
  go_wp2_with fail
  refine (HRR.out _).mono ?_
  rintro e w2 ⟨rfl, hb⟩
  have hc0 : w2.cell? ⟨w.heap.size, 0, none⟩ = some (.int .i64 k) := cell_stays hb (by simp [World.cell?_alloc_at])
  have hc1 : w2.cell? ⟨w.heap.size, 1, none⟩ = some (.int .i64 l) := cell_stays hb (by simp [World.cell?_alloc_at])
  have hc2 : w2.cell? ⟨w.heap.size, 2, none⟩ = some (.int .i64 s) := cell_stays hb (by simp [World.cell?_alloc_at])
  have HB2 := Lib.hid (below_on HB.out hb)
  have HR2 := Lib.hid (bytes_more (bytes_keep HR.out HB2.out) HB2.out.size)
  clear hb
  go_wp2_with fail
  refine (HSS.out _).mono ?_
  rintro e w3 ⟨rfl, hw⟩; subst w3
  go_wp2_with fail
  refine (HP.out _ HR2.out).mono ?_
  rintro e w3 ⟨rfl, hb⟩
  have HB3 := Lib.hid (below_on HB2.out hb)
  obtain ⟨w4, hst, ha, hb4⟩ := HST.out w3
  have HA := Lib.hid ha
  have HB4 := Lib.hid (below_on HB3.out hb4)
  clear hb ha hb4 hc0 hc1 hc2
  go_wp2
  go_ret2
  exact ⟨_, rfl, HB3.out.size, by rw [← HU.out]; exact HA.out, HB4.out⟩

theorem Pack_ok (k l s : Int) (A : Option Addr) (c : Nat) (d : List UInt8) (w : World) (hok : Oob.Ok k l s) (hr : Bytes w w.heap.size A 16 d) :
    Calls Try.prog 40 #[oob k l s, .slice A 16 c] w fun e w' => ∃ A', e = .returned (.tuple #[.slice A' 17 17, .int .i64 0]) ∧ Bytes w' w'.heap.size A' 17 (Oob.full k l s d) ∧ Below w.heap.size w w' := by
  refine (Pack_new k l s A c d w hok hr).mono ?_
  rintro e w' ⟨g, rfl, _, ha, hb⟩
  refine ⟨_, rfl, ?_, hb⟩
  have h := ha.bytes 0
  rw [Oob.full_len] at h
  exact h

end Go.Proofs.Yteonjdigcecceaa.OobPkg
