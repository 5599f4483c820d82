/-
  What the shards of package l2p do: has, get, put, for every number. Printed by shards.py.
-/
import Derived.Test.YtpheblblkkclbaaL2pMem
import Derived.Test.YtpheblblkkclbaaGeomCounts
import Derived.Test.YtpheblblkkclbaaInts
import Derived.Test.YtpheblblkkclbaaBitsList1
import Derived.Deep.RegionHeld3
namespace Go.Proofs.Ytpheblblkkclbaa.L2pPkg
open Go.RowKit Go.ChangeShapes
set_option maxRecDepth 4000

theorem hasI_any (g o : Nat) (m i : Int) (w : World) (hm : w.cell? ⟨g, o, none⟩ = some (.int .i64 m)) :
    Calls Try.prog 47 #[ptr g o, .int .i64 i] w fun e w' => e = .returned (.bool (decide (0 ≤ i) && decide (i < m))) ∧ w' = w := by
  go_enter Try.func47, Try.ntmps47
  go_wp2
  · go_ret
    rename_i h
    exact ⟨by simp [h], rfl⟩
  · go_ret
    rename_i h
    exact ⟨by simp [show ¬ 0 ≤ i by omega], rfl⟩

theorem getI_no (g o L n : Nat) (a : Nat → Option Nat) (z : Int) (f : Nat → List Value) (i : Nat) (w : World)
    (hf : w.cell? ⟨g, o + 1, none⟩ = some (.int .i64 z)) (hl : w.cell? ⟨g, o + 2, none⟩ = some (.slice (some ⟨L, 0, none⟩) n n)) (h : Sh w L n a 1 [.int .i64 z] f) (hn : n ≤ 1024) (hi : i < n * 64) (ha : a (i / 64) = none) :
    Calls Try.prog 51 #[ptr g o, .int .i64 (i : Int)] w fun e w' => e = .returned (.int .i64 z) ∧ w' = w := by
  have hi2 : i / 64 < n := by omega
  obtain ⟨hs, _⟩ := h.list (i / 64) hi2
  rw [ha] at hs
  have hs2 : w.cell? ⟨L, i / 64, none⟩ = some (.slice none 0 0) := hs
  clear h hs

  have hnil : (binOp .eql 54 (.slice none 0 0) (.slice none 0 0)).run Try.prog w = .ok (.bool true) w := Lib.run_eql_slice_nil w 54 3 none 0 0 0 0 Try.underlying54
  have hw : IntKind.i64.wrap ((i : Int) / 64) = ((i / 64 : Nat) : Int) := by rw [kwrap_is (by omega) (by omega)]; omega
  have hw2 : ((i : Int) / 64).toNat = i / 64 := by omega
  go_enter Try.func51, Try.ntmps51
  go_wp2
  go_ret
  exact ⟨rfl, rfl⟩

theorem getI_yes (g o L n d : Nat) (a : Nat → Option Nat) (z : Int) (fi : List Value) (f : Nat → List Value) (i : Nat) (w : World)
    (hl : w.cell? ⟨g, o + 2, none⟩ = some (.slice (some ⟨L, 0, none⟩) n n)) (h : Sh w L n a 1 fi f) (hn : n ≤ 1024) (hi : i < n * 64) (ha : a (i / 64) = some d) (he : f i = [.int .i64 z]) :
    Calls Try.prog 51 #[ptr g o, .int .i64 (i : Int)] w fun e w' => e = .returned (.int .i64 z) ∧ w' = w := by
  have hi2 : i / 64 < n := by omega
  obtain ⟨hs, _⟩ := h.list (i / 64) hi2
  rw [ha] at hs
  have hs2 : w.cell? ⟨L, i / 64, none⟩ = some (.slice (some ⟨d, 0, none⟩) 64 64) := hs
  have hcs := h.yes i d hi ha
  rw [he] at hcs
  have hc : w.cell? ⟨d, i % 64, none⟩ = some (.int .i64 z) := by simpa using (hcs 0 (.int .i64 z) rfl).1
  clear h hs hcs
  have hnil : (binOp .eql 54 (.slice (some ⟨d, 0, none⟩) 64 64) (.slice none 0 0)).run Try.prog w = .ok (.bool false) w := Lib.run_eql_slice_nil w 54 3 (some ⟨d, 0, none⟩) 64 64 0 0 Try.underlying54
  have hw : IntKind.i64.wrap ((i : Int) / 64) = ((i / 64 : Nat) : Int) := by rw [kwrap_is (by omega) (by omega)]; omega
  have hw2 : ((i : Int) / 64).toNat = i / 64 := by omega
  have hw3 : ((i : Int) % 64).toNat = i % 64 := by omega
  go_enter Try.func51, Try.ntmps51
  go_wp2
  go_ret
  exact ⟨rfl, rfl⟩

theorem hasE_any (g o : Nat) (m i : Int) (w : World) (hm : w.cell? ⟨g, o, none⟩ = some (.int .i64 m)) :
    Calls Try.prog 29 #[ptr g o, .int .i64 i] w fun e w' => e = .returned (.bool (decide (0 ≤ i) && decide (i < m))) ∧ w' = w := by
  go_enter Try.func29, Try.ntmps29
  go_wp2
  · go_ret
    rename_i h
    exact ⟨by simp [h], rfl⟩
  · go_ret
    rename_i h
    exact ⟨by simp [show ¬ 0 ≤ i by omega], rfl⟩

theorem getE_no (g o L n : Nat) (a : Nat → Option Nat) (x y z : Int) (f : Nat → List Value) (i : Nat) (w : World)
    (hf : w.cell? ⟨g, o + 1, none⟩ = some (.int .i64 x) ∧ w.cell? ⟨g, o + 2, none⟩ = some (.int .i64 y) ∧ w.cell? ⟨g, o + 3, none⟩ = some (.int .i64 z)) (hl : w.cell? ⟨g, o + 4, none⟩ = some (.slice (some ⟨L, 0, none⟩) n n)) (h : Sh w L n a 3 [.int .i64 x, .int .i64 y, .int .i64 z] f) (hn : n ≤ 1024) (hi : i < n * 64) (ha : a (i / 64) = none) :
    Calls Try.prog 30 #[ptr g o, .int .i64 (i : Int)] w fun e w' => e = .returned (.agg #[.int .i64 x, .int .i64 y, .int .i64 z]) ∧ Below w.heap.size w w' := by
  have hi2 : i / 64 < n := by omega
  obtain ⟨hs, _⟩ := h.list (i / 64) hi2
  rw [ha] at hs
  have hs2 : w.cell? ⟨L, i / 64, none⟩ = some (.slice none 0 0) := hs
  clear h hs
  obtain ⟨hf1, hf2, hf3⟩ := hf
  have hnil : (binOp .eql 72 (.slice none 0 0) (.slice none 0 0)).run Try.prog w = .ok (.bool true) w := Lib.run_eql_slice_nil w 72 30 none 0 0 0 0 Try.underlying72
  have hw : IntKind.i64.wrap ((i : Int) / 64) = ((i / 64 : Nat) : Int) := by rw [kwrap_is (by omega) (by omega)]; omega
  have hw2 : ((i : Int) / 64).toNat = i / 64 := by omega
  have hX := (Below.refl w.heap.size w).alloc (Nat.le_refl _) (.cells #[.int .i64 0, .int .i64 0, .int .i64 0] 30)
  replace hl := cell_stays hX hl
  replace hs2 := cell_stays hX hs2
  replace hf1 := cell_stays hX hf1
  replace hf2 := cell_stays hX hf2
  replace hf3 := cell_stays hX hf3
  replace hnil : (binOp .eql 72 (.slice none 0 0) (.slice none 0 0)).run Try.prog (w.alloc (.cells #[.int .i64 0, .int .i64 0, .int .i64 0] 30)) = .ok (.bool true) _ := Lib.run_eql_slice_nil _ 72 30 none 0 0 0 0 Try.underlying72
  clear hX
  go_enter Try.func30, Try.ntmps30
  go_wp2
  refine bodyPost_ret (v := .agg #[.int .i64 x, .int .i64 y, .int .i64 z]) ?_ rfl ⟨rfl, (Below.refl w.heap.size w).alloc (Nat.le_refl _) _⟩
  simp [results, Try.results30, go_sem]

theorem getE_yes (g o L n d : Nat) (a : Nat → Option Nat) (x y z : Int) (fi : List Value) (f : Nat → List Value) (i : Nat) (w : World)
    (hl : w.cell? ⟨g, o + 4, none⟩ = some (.slice (some ⟨L, 0, none⟩) n n)) (h : Sh w L n a 3 fi f) (hn : n ≤ 1024) (hi : i < n * 64) (ha : a (i / 64) = some d) (he : f i = [.int .i64 x, .int .i64 y, .int .i64 z]) :
    Calls Try.prog 30 #[ptr g o, .int .i64 (i : Int)] w fun e w' => e = .returned (.agg #[.int .i64 x, .int .i64 y, .int .i64 z]) ∧ Below w.heap.size w w' := by
  have hi2 : i / 64 < n := by omega
  obtain ⟨hs, _⟩ := h.list (i / 64) hi2
  rw [ha] at hs
  have hs2 : w.cell? ⟨L, i / 64, none⟩ = some (.slice (some ⟨d, 0, none⟩) 64 64) := hs
  have hcs := h.yes i d hi ha
  rw [he] at hcs
  have hc1 : w.cell? ⟨d, i % 64 * 3, none⟩ = some (.int .i64 x) := by simpa using (hcs 0 (.int .i64 x) rfl).1
  have hc2 : w.cell? ⟨d, i % 64 * 3 + 1, none⟩ = some (.int .i64 y) := by simpa using (hcs 1 (.int .i64 y) rfl).1
  have hc3 : w.cell? ⟨d, i % 64 * 3 + 2, none⟩ = some (.int .i64 z) := by simpa using (hcs 2 (.int .i64 z) rfl).1
  clear h hs hcs
  have hnil : (binOp .eql 72 (.slice (some ⟨d, 0, none⟩) 64 64) (.slice none 0 0)).run Try.prog w = .ok (.bool false) w := Lib.run_eql_slice_nil w 72 30 (some ⟨d, 0, none⟩) 64 64 0 0 Try.underlying72
  have hw : IntKind.i64.wrap ((i : Int) / 64) = ((i / 64 : Nat) : Int) := by rw [kwrap_is (by omega) (by omega)]; omega
  have hw2 : ((i : Int) / 64).toNat = i / 64 := by omega
  have hw3 : ((i : Int) % 64).toNat = i % 64 := by omega
  have hX := (Below.refl w.heap.size w).alloc (Nat.le_refl _) (.cells #[.int .i64 0, .int .i64 0, .int .i64 0] 30)
  replace hl := cell_stays hX hl
  replace hs2 := cell_stays hX hs2
  replace hc1 := cell_stays hX hc1
  replace hc2 := cell_stays hX hc2
  replace hc3 := cell_stays hX hc3
  replace hnil : (binOp .eql 72 (.slice (some ⟨d, 0, none⟩) 64 64) (.slice none 0 0)).run Try.prog (w.alloc (.cells #[.int .i64 0, .int .i64 0, .int .i64 0] 30)) = .ok (.bool false) _ := Lib.run_eql_slice_nil _ 72 30 (some ⟨d, 0, none⟩) 64 64 0 0 Try.underlying72
  clear hX
  go_enter Try.func30, Try.ntmps30
  go_wp2
  refine bodyPost_ret (v := .agg #[.int .i64 x, .int .i64 y, .int .i64 z]) ?_ rfl ⟨rfl, (Below.refl w.heap.size w).alloc (Nat.le_refl _) _⟩
  simp [results, Try.results30, go_sem]

end Go.Proofs.Ytpheblblkkclbaa.L2pPkg
