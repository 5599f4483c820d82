/-
  What the shards of package l2p do: blank, put, for every number. Printed by put.py.
-/
import Derived.Test.YtpheblblkkclbaaL2pShards
import Derived.Deep.OwnRows
namespace Go.Proofs.Ytpheblblkkclbaa.L2pPkg
open Go.RowKit Go.ChangeShapes
set_option maxRecDepth 4000

theorem Sh.set3 {w : World} {L n : Nat} {a : Nat → Option Nat} {fi : List Value} {f : Nat → List Value} (h : Sh w L n a 3 fi f) {i d : Nat} (hi : i < n * 64) (hd : a (i / 64) = some d) (x y z : Value) :
    Sh (((w.setCell ⟨d, (i % 64) * 3, none⟩ x).setCell ⟨d, (i % 64) * 3 + 1, none⟩ y).setCell ⟨d, (i % 64) * 3 + 2, none⟩ z) L n a 3 fi (fun k => if k = i then [x, y, z] else f k) := by
  have hl := h.len i hi
  have h1 := ((h.set hi hd (j := 0) (by omega) x).set hi hd (j := 1) (by omega) y).set hi hd (j := 2) (by omega) z
  refine h1.congr fun k hk => ?_
  by_cases e : k = i
  · subst e
    simp only [if_true]
    match hf : f k, hl with
    | [u, v, t], _ => rfl
  · simp [e]

theorem Sh.set1 {w : World} {L n : Nat} {a : Nat → Option Nat} {fi : List Value} {f : Nat → List Value} (h : Sh w L n a 1 fi f) {i d : Nat} (hi : i < n * 64) (hd : a (i / 64) = some d) (x : Value) :
    Sh (w.setCell ⟨d, i % 64, none⟩ x) L n a 1 fi (fun k => if k = i then [x] else f k) := by
  have hl := h.len i hi
  have h1 := h.set hi hd (j := 0) (by omega) x
  rw [show i % 64 * 1 + 0 = i % 64 by omega] at h1
  refine h1.congr fun k hk => ?_
  by_cases e : k = i
  · subst e
    simp only [if_true]
    match hf : f k, hl with
    | [u], _ => rfl
  · simp [e]

theorem Turn.of_set {O : Nat → Prop} {w : World} {b j : Nat} {v : Value} (hb : O b) : Turn O O w (w.setCell ⟨b, j, none⟩ v) := Turn.of_grown (grown_setCell w ⟨b, j, none⟩ v) hb

/-- What a block of a shard holds of which the first k rows are made. -/
def blI (z : Int) (k j : Nat) : Value := if j < k then .int .i64 z else .int .i64 0
def blE (x y z : Int) (k j : Nat) : Value := if j < k * 3 then (if j % 3 = 0 then .int .i64 x else if j % 3 = 1 then .int .i64 y else .int .i64 z) else .int .i64 0

theorem info_entry : (Try.prog.info? 30).map (fun i => (i.zero, i.size, i.bytes)) = some (some (.agg #[.int .i64 0, .int .i64 0, .int .i64 0]), 3, 24) := by kernel_rfl

theorem run_make_ent (n : Nat) (hn : n ≤ 1000000) (w : World) :
    (Instr.makeSlice 72 (.int .i64 (n : Int)) (.int .i64 (n : Int))).run Try.prog w = .ok (.slice (some ⟨w.heap.size, 0, none⟩) n n) (w.alloc (.cells (madeCells #[.int .i64 0, .int .i64 0, .int .i64 0] (n * 3)) 30)) := by
  obtain ⟨i, hi, hzz⟩ := Option.map_eq_some_iff.1 info_entry
  simp only [Prod.mk.injEq] at hzz
  obtain ⟨hz, hs, hb⟩ := hzz
  have := run_make (P := Try.prog) w 72 30 i _ Try.underlying72 hi hz .i64 .i64 (n : Int) (n : Int) (by omega) (Int.le_refl _) (by rw [hb]; omega) (by omega)
  rw [hs] at this
  simpa [Value.cells] using this

theorem run_make_int (n : Nat) (hn : n ≤ 1000000) (w : World) : (Instr.makeSlice 54 (.int .i64 (n : Int)) (.int .i64 (n : Int))).run Try.prog w = .ok (.slice (some ⟨w.heap.size, 0, none⟩) n n) (w.alloc (.cells (madeCells #[.int .i64 0] n) 3)) :=
  run_make_row' (P := Try.prog) 54 3 (.int .i64 0) 8 Try.underlying54 (by kernel_rfl) rfl .i64 .i64 n (by omega) (by omega) w

theorem made_ent (w : World) (x y z : Int) : (w.alloc (.cells (madeCells #[.int .i64 0, .int .i64 0, .int .i64 0] (64 * 3)) 30)).rowIs w.heap.size 30 192 (blE x y z 0) := by
  have h := World.rowIs_alloc w (madeCells #[.int .i64 0, .int .i64 0, .int .i64 0] (64 * 3)) 30 (blE x y z 0) (fun i hi => by
    rw [size_madeCells] at hi
    simp only [madeCells, Array.getElem?_map]
    have hr : (Array.range (64 * 3))[i]? = some i := by simp [hi]
    rw [hr]
    have h3 : i % 3 = 0 ∨ i % 3 = 1 ∨ i % 3 = 2 := by omega
    rcases h3 with h | h | h <;> simp [blE, h])
  rw [size_madeCells] at h
  exact h

theorem made_int (w : World) (z : Int) : (w.alloc (.cells (madeCells #[.int .i64 0] 64) 3)).rowIs w.heap.size 3 64 (blI z 0) :=
  (World.rowIs_made w (.int .i64 0) 64 3).congr fun i _ => by simp [blI]

theorem stepI (z : Int) (k : Nat) : ∀ j, (if j = k then Value.int .i64 z else blI z k j) = blI z (k + 1) j := by
  intro j
  unfold blI
  by_cases e : j = k
  · simp [e]
  · by_cases h : j < k
    · simp [e, h, show j < k + 1 by omega]
    · simp [e, h, show ¬ j < k + 1 by omega]

theorem stepE (x y z : Int) (k : Nat) : ∀ j, (if j = k * 3 + 2 then Value.int .i64 z else if j = k * 3 + 1 then .int .i64 y else if j = k * 3 then .int .i64 x else blE x y z k j) = blE x y z (k + 1) j := by
  intro j
  unfold blE
  by_cases e2 : j = k * 3 + 2
  · rw [if_pos e2, if_pos (by omega), if_neg (by omega), if_neg (by omega)]
  · rw [if_neg e2]
    by_cases e1 : j = k * 3 + 1
    · rw [if_pos e1, if_pos (by omega), if_neg (by omega), if_pos (by omega)]
    · rw [if_neg e1]
      by_cases e0 : j = k * 3
      · rw [if_pos e0, if_pos (by omega), if_pos (by omega)]
      · rw [if_neg e0]
        by_cases h : j < k * 3
        · have h2 : j < (k + 1) * 3 := by omega
          simp only [h, h2, if_true]
        · have h2 : ¬ j < (k + 1) * 3 := by omega
          simp only [h, h2, if_false]

theorem blankI_any (g o : Nat) (z : Int) (w : World) (hf : w.cell? ⟨g, o + 1, none⟩ = some (.int .i64 z)) :
    Calls Try.prog 80 #[ptr g o] w fun e w' => e = .returned (.slice (some ⟨w.heap.size, 0, none⟩) 64 64) ∧ w'.rowIs w.heap.size 3 64 (blI z 64) ∧ Below w.heap.size w w' := by
  have hf1 := hf
  have hmk : (Instr.makeSlice 54 (.int .i64 64) (.int .i64 64)).run Try.prog w = _ := run_make_int 64 (by omega) w
  have HG := Lib.hid (World.block_lt_of_cell? _ _ hf1)
  obtain ⟨ob, hob⟩ : ∃ ob, ob = Obj.cells (madeCells #[.int .i64 0] 64) 3 := ⟨_, rfl⟩
  have HMADE := Lib.hid (show (w.alloc ob).rowIs w.heap.size 3 64 (blI z 0) by rw [hob]; exact made_int w z)
  have HB := Lib.hid ((Below.refl w.heap.size w).alloc (Nat.le_refl _) ob)
  rw [← hob] at hmk
  clear hob
  go_enter Try.func80, Try.ntmps80
  go_wp2
  go_loopw [4, 8] (fun i c wr => ∃ k : Nat, c = .int .i64 (k : Int) ∧ k ≤ 64 ∧ wr.rowIs w.heap.size 3 64 (blI z k) ∧ Below w.heap.size w wr) (fun i c _ => 64 - (intOf c).toNat)
  case atStart => exact ⟨0, rfl, by omega, HMADE.out, HB.out⟩
  case round =>
    obtain ⟨k, rfl, hk, hrow, hbw⟩ := hrel
    have HROW := Lib.hid hrow
    have hHB := Lib.hid hbw
    clear hrow hbw
    by_cases hlt : k < 64
    · have hlt2 : (k : Int) < 64 := by omega
      have f1 := hHB.out.cell (p := ⟨g, o + 1, none⟩) (HG.out) |>.trans hf1
      have c0 := HROW.out.cell (i := k) (by omega)
      have z0 := HROW.out.frozen k
      go_wp2
      go_roundw
      case measure => simp [intOf]; omega
      case rel =>
        refine ⟨k + 1, by go_num, by omega, (HROW.out.set k (.int .i64 z)).congr fun j _ => stepI z k j, hHB.out.setCell (Nat.le_refl _) _⟩
    · obtain rfl : k = 64 := by omega
      go_wp2
      go_ret
      exact ⟨rfl, HROW.out, hHB.out⟩

theorem blankE_any (g o : Nat) (x y z : Int) (w : World) (hf : w.cell? ⟨g, o + 1, none⟩ = some (.int .i64 x) ∧ w.cell? ⟨g, o + 2, none⟩ = some (.int .i64 y) ∧ w.cell? ⟨g, o + 3, none⟩ = some (.int .i64 z)) :
    Calls Try.prog 81 #[ptr g o] w fun e w' => e = .returned (.slice (some ⟨w.heap.size, 0, none⟩) 64 64) ∧ w'.rowIs w.heap.size 30 192 (blE x y z 64) ∧ Below w.heap.size w w' := by
  obtain ⟨hf1, hf2, hf3⟩ := hf
  have hmk : (Instr.makeSlice 72 (.int .i64 64) (.int .i64 64)).run Try.prog w = _ := run_make_ent 64 (by omega) w
  have HG := Lib.hid (World.block_lt_of_cell? _ _ hf1)
  obtain ⟨ob, hob⟩ : ∃ ob, ob = Obj.cells (madeCells #[.int .i64 0, .int .i64 0, .int .i64 0] (64 * 3)) 30 := ⟨_, rfl⟩
  have HMADE := Lib.hid (show (w.alloc ob).rowIs w.heap.size 30 192 (blE x y z 0) by rw [hob]; exact made_ent w x y z)
  have HB := Lib.hid ((Below.refl w.heap.size w).alloc (Nat.le_refl _) ob)
  rw [← hob] at hmk
  clear hob
  go_enter Try.func81, Try.ntmps81
  go_wp2
  go_loopw [4, 8] (fun i c wr => ∃ k : Nat, c = .int .i64 (k : Int) ∧ k ≤ 64 ∧ wr.rowIs w.heap.size 30 192 (blE x y z k) ∧ Below w.heap.size w wr) (fun i c _ => 64 - (intOf c).toNat)
  case atStart => exact ⟨0, rfl, by omega, HMADE.out, HB.out⟩
  case round =>
    obtain ⟨k, rfl, hk, hrow, hbw⟩ := hrel
    have HROW := Lib.hid hrow
    have hHB := Lib.hid hbw
    clear hrow hbw
    by_cases hlt : k < 64
    · have hlt2 : (k : Int) < 64 := by omega
      have f1 := (hHB.out.cell (p := ⟨g, o + 1, none⟩) HG.out).trans hf1
      have f2 := (hHB.out.cell (p := ⟨g, o + 2, none⟩) HG.out).trans hf2
      have f3 := (hHB.out.cell (p := ⟨g, o + 3, none⟩) HG.out).trans hf3
      have c0 := HROW.out.cell (i := k * 3) (by omega)
      have c1 := HROW.out.cell (i := k * 3 + 1) (by omega)
      have c2 := HROW.out.cell (i := k * 3 + 2) (by omega)
      have z0 := HROW.out.frozen (k * 3)
      have z1 := HROW.out.frozen (k * 3 + 1)
      have z2 := HROW.out.frozen (k * 3 + 2)
      go_wp2
      go_roundw
      case measure => simp [intOf]; omega
      case rel =>
        refine ⟨k + 1, by go_num, by omega, (((HROW.out.set (k * 3) (.int .i64 x)).set (k * 3 + 1) (.int .i64 y)).set (k * 3 + 2) (.int .i64 z)).congr fun j _ => stepE x y z k j, ((hHB.out.setCell (Nat.le_refl _) _).setCell (Nat.le_refl _) _).setCell (Nat.le_refl _) _⟩
    · obtain rfl : k = 64 := by omega
      go_wp2
      go_ret
      exact ⟨rfl, HROW.out, hHB.out⟩

end Go.Proofs.Ytpheblblkkclbaa.L2pPkg
