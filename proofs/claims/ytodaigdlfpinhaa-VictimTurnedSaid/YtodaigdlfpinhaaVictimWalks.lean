/-
  What package victim's small functions do, for every input: cmp.Compare, compare, difference, against, index, rankOf, isCollectable.
-/
import Derived.Test.YtodaigdlfpinhaaChecked
import Derived.Test.YtodaigdlfpinhaaVictimMath
import Derived.Lib.Hide
import Derived.OpenShut
namespace Go.Proofs.Ytodaigdlfpinhaa.VictimPkg
open Go.RowKit Victim Lib
set_option maxRecDepth 4000

theorem isNaN_v (x : Int) (w : World) : Calls Try.prog 50 #[.int .i64 x] w fun e w' => e = .returned (.bool false) ∧ w' = w := by
  go_enter Try.func50, Try.ntmps50
  go_wp2
  go_ret
  exact ⟨by simp, rfl⟩

theorem isNaN_w (x : Int) (w : World) : Calls Try.prog 51 #[.int .i64 x] w fun e w' => e = .returned (.bool false) ∧ w' = w := by
  go_enter Try.func51, Try.ntmps51
  go_wp2
  go_ret
  exact ⟨by simp, rfl⟩

theorem isNaN_i (x : Int) (w : World) : Calls Try.prog 52 #[.int .i64 x] w fun e w' => e = .returned (.bool false) ∧ w' = w := by
  go_enter Try.func52, Try.ntmps52
  go_wp2
  go_ret
  exact ⟨by simp, rfl⟩

theorem Compare_v (x y : Int) (w : World) : Calls Try.prog 42 #[.int .i64 x, .int .i64 y] w fun e w' => e = .returned (.int .i64 (cmpI x y)) ∧ w' = w := by
  have hx := Lib.hid (isNaN_v x w)
  have hy := Lib.hid (isNaN_v y w)
  unfold cmpI
  by_cases h1 : x < y
  · rw [if_pos h1]
    go_enter Try.func42, Try.ntmps42
    go_wp2_with (first | (refine hx.out.mono ?_; rintro e w' ⟨rfl, rfl⟩) | (refine hy.out.mono ?_; rintro e w' ⟨rfl, rfl⟩))
    go_ret
    exact ⟨rfl, rfl⟩
  · rw [if_neg h1]
    by_cases h2 : y < x
    · rw [if_pos h2]
      go_enter Try.func42, Try.ntmps42
      go_wp2_with (first | (refine hx.out.mono ?_; rintro e w' ⟨rfl, rfl⟩) | (refine hy.out.mono ?_; rintro e w' ⟨rfl, rfl⟩))
      go_ret
      exact ⟨rfl, rfl⟩
    · rw [if_neg h2]
      go_enter Try.func42, Try.ntmps42
      go_wp2_with (first | (refine hx.out.mono ?_; rintro e w' ⟨rfl, rfl⟩) | (refine hy.out.mono ?_; rintro e w' ⟨rfl, rfl⟩))
      go_ret
      exact ⟨rfl, rfl⟩

theorem Compare_w (x y : Int) (w : World) : Calls Try.prog 43 #[.int .i64 x, .int .i64 y] w fun e w' => e = .returned (.int .i64 (cmpI x y)) ∧ w' = w := by
  have hx := Lib.hid (isNaN_w x w)
  have hy := Lib.hid (isNaN_w y w)
  unfold cmpI
  by_cases h1 : x < y
  · rw [if_pos h1]
    go_enter Try.func43, Try.ntmps43
    go_wp2_with (first | (refine hx.out.mono ?_; rintro e w' ⟨rfl, rfl⟩) | (refine hy.out.mono ?_; rintro e w' ⟨rfl, rfl⟩))
    go_ret
    exact ⟨rfl, rfl⟩
  · rw [if_neg h1]
    by_cases h2 : y < x
    · rw [if_pos h2]
      go_enter Try.func43, Try.ntmps43
      go_wp2_with (first | (refine hx.out.mono ?_; rintro e w' ⟨rfl, rfl⟩) | (refine hy.out.mono ?_; rintro e w' ⟨rfl, rfl⟩))
      go_ret
      exact ⟨rfl, rfl⟩
    · rw [if_neg h2]
      go_enter Try.func43, Try.ntmps43
      go_wp2_with (first | (refine hx.out.mono ?_; rintro e w' ⟨rfl, rfl⟩) | (refine hy.out.mono ?_; rintro e w' ⟨rfl, rfl⟩))
      go_ret
      exact ⟨rfl, rfl⟩

theorem Compare_i (x y : Int) (w : World) : Calls Try.prog 44 #[.int .i64 x, .int .i64 y] w fun e w' => e = .returned (.int .i64 (cmpI x y)) ∧ w' = w := by
  have hx := Lib.hid (isNaN_i x w)
  have hy := Lib.hid (isNaN_i y w)
  unfold cmpI
  by_cases h1 : x < y
  · rw [if_pos h1]
    go_enter Try.func44, Try.ntmps44
    go_wp2_with (first | (refine hx.out.mono ?_; rintro e w' ⟨rfl, rfl⟩) | (refine hy.out.mono ?_; rintro e w' ⟨rfl, rfl⟩))
    go_ret
    exact ⟨rfl, rfl⟩
  · rw [if_neg h1]
    by_cases h2 : y < x
    · rw [if_pos h2]
      go_enter Try.func44, Try.ntmps44
      go_wp2_with (first | (refine hx.out.mono ?_; rintro e w' ⟨rfl, rfl⟩) | (refine hy.out.mono ?_; rintro e w' ⟨rfl, rfl⟩))
      go_ret
      exact ⟨rfl, rfl⟩
    · rw [if_neg h2]
      go_enter Try.func44, Try.ntmps44
      go_wp2_with (first | (refine hx.out.mono ?_; rintro e w' ⟨rfl, rfl⟩) | (refine hy.out.mono ?_; rintro e w' ⟨rfl, rfl⟩))
      go_ret
      exact ⟨rfl, rfl⟩

/-- A property as a value of the empty interface. -/
abbrev ifv (t : TypeId) (x : Int) : Value := .iface t (.int .i64 x)

@[go_sem] theorem as_vv (x : Int) (w : World) : (Instr.typeAssert (.iface 53 (.int .i64 x)) 20 53 true).run Try.prog w = .ok (.tuple #[.int .i64 x, .bool true]) w := by kernel_rfl
@[go_sem] theorem as_vw (x : Int) (w : World) : (Instr.typeAssert (.iface 53 (.int .i64 x)) 20 54 true).run Try.prog w = .ok (.tuple #[.int .i64 0, .bool false]) w := by kernel_rfl
@[go_sem] theorem as_vi (x : Int) (w : World) : (Instr.typeAssert (.iface 53 (.int .i64 x)) 20 48 true).run Try.prog w = .ok (.tuple #[.int .i64 0, .bool false]) w := by kernel_rfl
@[go_sem] theorem as_wv (x : Int) (w : World) : (Instr.typeAssert (.iface 54 (.int .i64 x)) 20 53 true).run Try.prog w = .ok (.tuple #[.int .i64 0, .bool false]) w := by kernel_rfl
@[go_sem] theorem as_ww (x : Int) (w : World) : (Instr.typeAssert (.iface 54 (.int .i64 x)) 20 54 true).run Try.prog w = .ok (.tuple #[.int .i64 x, .bool true]) w := by kernel_rfl
@[go_sem] theorem as_wi (x : Int) (w : World) : (Instr.typeAssert (.iface 54 (.int .i64 x)) 20 48 true).run Try.prog w = .ok (.tuple #[.int .i64 0, .bool false]) w := by kernel_rfl
@[go_sem] theorem as_iv (x : Int) (w : World) : (Instr.typeAssert (.iface 48 (.int .i64 x)) 20 53 true).run Try.prog w = .ok (.tuple #[.int .i64 0, .bool false]) w := by kernel_rfl
@[go_sem] theorem as_iw (x : Int) (w : World) : (Instr.typeAssert (.iface 48 (.int .i64 x)) 20 54 true).run Try.prog w = .ok (.tuple #[.int .i64 0, .bool false]) w := by kernel_rfl
@[go_sem] theorem as_ii (x : Int) (w : World) : (Instr.typeAssert (.iface 48 (.int .i64 x)) 20 48 true).run Try.prog w = .ok (.tuple #[.int .i64 x, .bool true]) w := by kernel_rfl

theorem compare_v (x y : Int) (w : World) : Calls Try.prog 29 #[.int .i64 x, ifv 53 y] w fun e w' => e = .returned (.int .i64 (cmpI x y)) ∧ w' = w := by
  have hc := Lib.hid (Compare_v x y w)
  generalize cmpI x y = r at *
  go_enter Try.func29, Try.ntmps29
  go_wp2_with (refine hc.out.mono ?_; rintro e w' ⟨rfl, rfl⟩)
  go_ret
  exact ⟨rfl, rfl⟩

theorem difference_v (x y : Int) (w : World) : Calls Try.prog 26 #[ifv 53 x, ifv 53 y] w fun e w' => e = .returned (.int .i64 (cmpI x y)) ∧ w' = w := by
  have hc := Lib.hid (compare_v x y w)
  generalize cmpI x y = r at *
  go_enter Try.func26, Try.ntmps26
  go_wp2_with (refine hc.out.mono ?_; rintro e w' ⟨rfl, rfl⟩)
  go_ret
  exact ⟨rfl, rfl⟩

theorem compare_w (x y : Int) (w : World) : Calls Try.prog 30 #[.int .i64 x, ifv 54 y] w fun e w' => e = .returned (.int .i64 (cmpI x y)) ∧ w' = w := by
  have hc := Lib.hid (Compare_w x y w)
  generalize cmpI x y = r at *
  go_enter Try.func30, Try.ntmps30
  go_wp2_with (refine hc.out.mono ?_; rintro e w' ⟨rfl, rfl⟩)
  go_ret
  exact ⟨rfl, rfl⟩

theorem difference_w (x y : Int) (w : World) : Calls Try.prog 26 #[ifv 54 x, ifv 54 y] w fun e w' => e = .returned (.int .i64 (cmpI x y)) ∧ w' = w := by
  have hc := Lib.hid (compare_w x y w)
  generalize cmpI x y = r at *
  go_enter Try.func26, Try.ntmps26
  go_wp2_with (refine hc.out.mono ?_; rintro e w' ⟨rfl, rfl⟩)
  go_ret
  exact ⟨rfl, rfl⟩

theorem compare_i (x y : Int) (w : World) : Calls Try.prog 31 #[.int .i64 x, ifv 48 y] w fun e w' => e = .returned (.int .i64 (cmpI x y)) ∧ w' = w := by
  have hc := Lib.hid (Compare_i x y w)
  generalize cmpI x y = r at *
  go_enter Try.func31, Try.ntmps31
  go_wp2_with (refine hc.out.mono ?_; rintro e w' ⟨rfl, rfl⟩)
  go_ret
  exact ⟨rfl, rfl⟩

theorem difference_i (x y : Int) (w : World) : Calls Try.prog 26 #[ifv 48 x, ifv 48 y] w fun e w' => e = .returned (.int .i64 (cmpI x y)) ∧ w' = w := by
  have hc := Lib.hid (compare_i x y w)
  generalize cmpI x y = r at *
  go_enter Try.func26, Try.ntmps26
  go_wp2_with (refine hc.out.mono ?_; rintro e w' ⟨rfl, rfl⟩)
  go_ret
  exact ⟨rfl, rfl⟩

/-- A rank's three cells. -/
def rankC (a : K) : List Value := [ifv 53 a.1, ifv 54 a.2.1, ifv 48 a.2.2]
abbrev rankV (a : K) : Value := .agg (rankC a).toArray

theorem below_new2 (w : World) (o o2 : Obj) : Below w.heap.size w ((w.alloc o).alloc o2) := ((Below.refl w.heap.size w).alloc (Nat.le_refl _) _).alloc (by simp) _

theorem ix_0 (x y z : Value) (w : World) : (Instr.index 38 (.agg #[x, y, z]) (.int .i64 0)).run Try.prog w = .ok x w := by kernel_rfl
theorem ix_1 (x y z : Value) (w : World) : (Instr.index 38 (.agg #[x, y, z]) (.int .i64 1)).run Try.prog w = .ok y w := by kernel_rfl
theorem ix_2 (x y z : Value) (w : World) : (Instr.index 38 (.agg #[x, y, z]) (.int .i64 2)).run Try.prog w = .ok z w := by kernel_rfl

set_option maxHeartbeats 1000000 in
theorem index_any (a : K) (w : World) : Calls Try.prog 20 #[rankV a] w fun e w' => e = .returned (.int .i64 a.2.2) ∧ Below w.heap.size w w' := by
  obtain ⟨v, y, i⟩ := a
  obtain ⟨X, hX⟩ : ∃ X, X = w.alloc (.cells #[ifv 53 v, ifv 54 y, ifv 48 i] 38) := ⟨_, rfl⟩
  have HB : Hid (Below w.heap.size w X) := Lib.hid (by rw [hX]; exact (Below.refl w.heap.size w).alloc (Nat.le_refl _) _)
  unfold rankV rankC
  go_enter Try.func20, Try.ntmps20
  go_wp2
  rw [← hX]
  clear hX
  go_loopw [8] (fun k wq => ∃ j : Nat, k = .int .i64 (j : Int) ∧ j ≤ 2 ∧ wq = X) (fun k _ => 3 - (intOf k).toNat)
  case atStart => exact ⟨0, rfl, by omega, rfl⟩
  case round =>
    obtain ⟨j, rfl, hj, rfl⟩ := hrel
    have i0 := fun w => ix_0 (ifv 53 v) (ifv 54 y) (ifv 48 i) w
    have i1 := fun w => ix_1 (ifv 53 v) (ifv 54 y) (ifv 48 i) w
    have i2 := fun w => ix_2 (ifv 53 v) (ifv 54 y) (ifv 48 i) w
    rcases (show j = 0 ∨ j = 1 ∨ j = 2 by omega) with rfl | rfl | rfl
    · go_wp2
      go_roundw
      case rel => exact ⟨1, rfl, by omega, by trivial⟩
      case measure => simp [intOf]
    · go_wp2
      go_roundw
      case rel => exact ⟨2, rfl, by omega, by trivial⟩
      case measure => simp [intOf]
    · go_wp2
      go_ret
      exact ⟨rfl, HB.out⟩

def boxR (a : K) : Obj := .cells (rankC a).toArray 38 (0, 0)

set_option maxHeartbeats 2000000 in
theorem against_any (a b : K) (w : World) : Calls Try.prog 19 #[rankV a, rankV b] w fun e w' => e = .returned (.int .i64 (cmpK a b)) ∧ w' = (w.alloc (boxR a)).alloc (boxR b) := by
  obtain ⟨a0, a1, a2⟩ := a
  obtain ⟨b0, b1, b2⟩ := b
  obtain ⟨X, hX⟩ : ∃ X, X = (w.alloc (boxR (a0, a1, a2))).alloc (boxR (b0, b1, b2)) := ⟨_, rfl⟩
  rw [← hX]
  have hD0 := Lib.hid (difference_v a0 b0 X)
  have hD1 := Lib.hid (difference_w a1 b1 X)
  have hD2 := Lib.hid (difference_i a2 b2 X)
  have hb : X.heap[w.heap.size + 1]? = some (boxR (b0, b1, b2)) := by
    have := heap_alloc_new (w.alloc (boxR (a0, a1, a2))) (boxR (b0, b1, b2))
    rw [World.size_alloc] at this
    rw [hX]
    exact this
  have k0 : X.cell? ⟨w.heap.size + 1, 0, none⟩ = some (ifv 53 b0) := by simp [World.cell?, hb, boxR, rankC]
  have k1 : X.cell? ⟨w.heap.size + 1, 1, none⟩ = some (ifv 54 b1) := by simp [World.cell?, hb, boxR, rankC]
  have k2 : X.cell? ⟨w.heap.size + 1, 2, none⟩ = some (ifv 48 b2) := by simp [World.cell?, hb, boxR, rankC]
  unfold boxR at hX
  unfold cmpK
  dsimp only
  generalize cmpI a0 b0 = r0 at *
  generalize cmpI a1 b1 = r1 at *
  generalize cmpI a2 b2 = r2 at *
  obtain ⟨R, hR⟩ : ∃ R, R = if r0 ≠ 0 then r0 else if r1 ≠ 0 then r1 else r2 := ⟨_, rfl⟩
  rw [← hR]
  replace hR := Lib.hid hR
  unfold rankV rankC at *
  dsimp only at *
  go_enter Try.func19, Try.ntmps19
  go_wp2
  rw [← hX]
  clear hX
  have i0 := fun w => ix_0 (ifv 53 a0) (ifv 54 a1) (ifv 48 a2) w
  have i1 := fun w => ix_1 (ifv 53 a0) (ifv 54 a1) (ifv 48 a2) w
  have i2 := fun w => ix_2 (ifv 53 a0) (ifv 54 a1) (ifv 48 a2) w
  go_loopw [9] (fun k wq => ∃ j : Nat, k = .int .i64 (j : Int) ∧ j ≤ 3 ∧ Hid ((0 < j → r0 = 0) ∧ (1 < j → r1 = 0) ∧ (2 < j → r2 = 0)) ∧ wq = X) (fun k _ => 3 - (intOf k).toNat)
  case atStart => exact ⟨0, rfl, by omega, ⟨by omega, by omega, by omega⟩, rfl⟩
  case round =>
    obtain ⟨j, rfl, hj, hr, rfl⟩ := hrel
    rcases (show j = 0 ∨ j = 1 ∨ j = 2 ∨ j = 3 by omega) with rfl | rfl | rfl | rfl
    · by_cases hz : r0 = 0
      · have d0 : (r0 == 0) = true := by simpa using hz
        have hr' := Lib.hid (show (0 < 1 → r0 = 0) ∧ (1 < 1 → r1 = 0) ∧ (2 < 1 → r2 = 0) from ⟨fun _ => hz, fun h => by omega, fun h => by omega⟩)
        clear hz
        go_wp2_with (refine hD0.out.mono ?_; rintro e w' ⟨rfl, rfl⟩)
        go_roundw
        case rel => exact ⟨1, rfl, by omega, hr', by trivial⟩
        case measure => simp [intOf]
      · have d0 : (r0 == 0) = false := by simpa using hz
        have hf := Lib.hid (show r0 = R by rw [hR.out]; simp [hz])
        clear hz
        go_wp2_with (refine hD0.out.mono ?_; rintro e w' ⟨rfl, rfl⟩)
        go_ret
        exact ⟨congrArg (fun z => Ending.returned (.int .i64 z)) hf.out, rfl⟩
    · by_cases hz : r1 = 0
      · have d0 : (r1 == 0) = true := by simpa using hz
        have hr' := Lib.hid (show (0 < 2 → r0 = 0) ∧ (1 < 2 → r1 = 0) ∧ (2 < 2 → r2 = 0) from ⟨fun _ => hr.out.1 (by omega), fun _ => hz, fun h => by omega⟩)
        clear hz
        go_wp2_with (refine hD1.out.mono ?_; rintro e w' ⟨rfl, rfl⟩)
        go_roundw
        case rel => exact ⟨2, rfl, by omega, hr', by trivial⟩
        case measure => simp [intOf]
      · have d0 : (r1 == 0) = false := by simpa using hz
        have hf := Lib.hid (show r1 = R by rw [hR.out]; simp [hr.out.1 (by omega), hz])
        clear hz
        go_wp2_with (refine hD1.out.mono ?_; rintro e w' ⟨rfl, rfl⟩)
        go_ret
        exact ⟨congrArg (fun z => Ending.returned (.int .i64 z)) hf.out, rfl⟩
    · by_cases hz : r2 = 0
      · have d0 : (r2 == 0) = true := by simpa using hz
        have hr' := Lib.hid (show (0 < 3 → r0 = 0) ∧ (1 < 3 → r1 = 0) ∧ (2 < 3 → r2 = 0) from ⟨fun _ => hr.out.1 (by omega), fun _ => hr.out.2.1 (by omega), fun _ => hz⟩)
        clear hz
        go_wp2_with (refine hD2.out.mono ?_; rintro e w' ⟨rfl, rfl⟩)
        go_roundw
        case rel => exact ⟨3, rfl, by omega, hr', by trivial⟩
        case measure => simp [intOf]
      · have d0 : (r2 == 0) = false := by simpa using hz
        have hf := Lib.hid (show r2 = R by rw [hR.out]; simp [hr.out.1 (by omega), hr.out.2.1 (by omega)])
        clear hz
        go_wp2_with (refine hD2.out.mono ?_; rintro e w' ⟨rfl, rfl⟩)
        go_ret
        exact ⟨congrArg (fun z => Ending.returned (.int .i64 z)) hf.out, rfl⟩
    · have hf := Lib.hid (show 0 = R by rw [hR.out]; simp [hr.out.1 (by omega), hr.out.2.1 (by omega), hr.out.2.2 (by omega)])
      go_wp2
      go_ret
      exact ⟨congrArg (fun z => Ending.returned (.int .i64 z)) hf.out, rfl⟩

/-- A line as a value. -/
abbrev lineV (x : Ln) : Value := .agg #[.int .i64 x.st, .int .i64 x.wr, .int .i64 x.gd, .int .i64 x.vd, .int .i64 x.rm]

theorem rankOf_any (x : Ln) (i : Int) (w : World) : Calls Try.prog 25 #[lineV x, .int .i64 i] w fun e w' => e = .returned (rankV (x.vd, x.wr, i)) ∧ Below w.heap.size w w' := by
  obtain ⟨x0, x1, x2, x3, x4⟩ := x
  have HB := Lib.hid (below_new2 w (.cells #[.int .i64 x0, .int .i64 x1, .int .i64 x2, .int .i64 x3, .int .i64 x4] 33) (.cells #[ifv 53 x3, ifv 54 x1, ifv 48 i] 38))
  unfold rankV rankC lineV
  dsimp only
  go_enter Try.func25, Try.ntmps25
  go_wp2
  refine bodyPost_ret (v := .agg #[ifv 53 x3, ifv 54 x1, ifv 48 i]) ?_ rfl ⟨rfl, HB.out⟩
  simp [results, Try.results25, go_sem]

/-- A boxed line: four tests, the first that fails ends it. -/
theorem box_line (x : Ln) (w : World) : Below w.heap.size w (w.alloc (.cells #[.int .i64 x.st, .int .i64 x.wr, .int .i64 x.gd, .int .i64 x.vd, .int .i64 x.rm] 33)) := (Below.refl w.heap.size w).alloc (Nat.le_refl _) _

set_option maxHeartbeats 1000000 in
theorem collectable_any (x : Ln) (w : World) : Calls Try.prog 24 #[lineV x] w fun e w' => e = .returned (.bool (may x)) ∧ Below w.heap.size w w' := by
  obtain ⟨x0, x1, x2, x3, x4⟩ := x
  have HB := Lib.hid (box_line ⟨x0, x1, x2, x3, x4⟩ w)
  unfold lineV may
  dsimp only
  by_cases h1 : x0 = 2
  · subst h1
    by_cases h2 : 0 ≤ x3
    · by_cases h3 : x3 < x4
      · by_cases h4 : x4 ≤ 8192
        · go_enter Try.func24, Try.ntmps24
          go_wp2
          go_ret
          exact ⟨by first | rfl | (simp; done) | (simp; omega), HB.out⟩
        · go_enter Try.func24, Try.ntmps24
          go_wp2
          go_ret
          exact ⟨by first | rfl | (simp; done) | (simp; omega), HB.out⟩
      · go_enter Try.func24, Try.ntmps24
        go_wp2
        go_ret
        exact ⟨by first | rfl | (simp; done) | (simp; omega), HB.out⟩
    · go_enter Try.func24, Try.ntmps24
      go_wp2
      go_ret
      exact ⟨by first | rfl | (simp; done) | (simp; omega), HB.out⟩
  · go_enter Try.func24, Try.ntmps24
    go_wp2
    go_ret
    exact ⟨by first | rfl | (simp; done) | (simp; omega), HB.out⟩

end Go.Proofs.Ytodaigdlfpinhaa.VictimPkg
