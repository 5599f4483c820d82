/-
  A setting that grows: two slices of ints, in the two cells of one block, each appended onto. And a slice of bools that came in, opened.
-/
import Derived.Test.YtnnonkmkdjhacaaLinesOps
import Derived.Test.YtnnonkmkdjhacaaIntsOwn
import Derived.Test.YtnnonkmkdjhacaaMade
namespace Go.Proofs.Ytnnonkmkdjhacaa.LinesOps
open Go.RowKit Go.ChangeShapes Go.WideShapes Go.Deep
set_option maxRecDepth 4000

/-- A slice of bools that came in. -/
def Bools (w : World) (B : Nat) (A : Option Addr) (n : Nat) : Prop :=
  ∀ i, i < n → ∃ b off x, A = some ⟨b, off, none⟩ ∧ b < B ∧ w.cell? ⟨b, off + i, none⟩ = some (.bool x)

theorem Bools.keep {w w' : World} {B : Nat} {A : Option Addr} {n : Nat} (h : Bools w B A n) (hk : Below B w w') : Bools w' B A n := fun i hi => by
  obtain ⟨b, off, x, e, hb, hc⟩ := h i hi
  exact ⟨b, off, x, e, hb, (World.cell?_of_block (w := w) (hk.block b hb)).trans hc⟩

section
variable {H : Type} {enc : TypeId × Value → H}
theorem open_bools {W : World} {base : Nat} {v : Value} {d : DataW H} {ps : List MemPlace} (hv : Value.okWide Try.prog W .any base 53 v) (h : DataW.Trod enc Try.prog W 0 (fun _ => true) true 53 v d ps) :
    ∃ A n c, v = .slice A n c ∧ n ≤ c ∧ c ≤ maxLen ∧ Bools W W.heap.size A n := by
  obtain ⟨a0, len, cap, rfl⟩ := okWide_slice Try.underlying53 hv
  obtain ⟨fuel, hf⟩ := h
  rcases open_slice Try.underlying53 hf with ⟨hcs, _⟩ | ⟨a, len', cap', m, n, D, Pl, hcs, _, hl, hm, hmm, _, hx⟩
  · simp [Value.cells] at hcs
    obtain ⟨rfl, rfl, rfl⟩ := hcs
    exact ⟨_, _, _, rfl, Nat.le_refl _, Nat.zero_le _, fun i hi => absurd hi (by omega)⟩
  · simp [Value.cells] at hcs
    obtain ⟨rfl, rfl, rfl⟩ := hcs
    simp only [if_true] at hmm
    refine ⟨_, _, _, rfl, hl, hm, fun i hi => ?_⟩
    obtain ⟨cs, hc, hr⟩ := hx i (by omega)
    rw [one4] at hc
    obtain ⟨_, hlen, hcell⟩ := World.cells?_some hc
    obtain ⟨x, hcs2, _⟩ := DataW.trod_bool Try.underlying4 hr
    subst hcs2
    have h0 := hcell 0 (by omega)
    obtain ⟨b, off, spot⟩ := a
    have hspot : spot = none := by
      obtain ⟨cs0, hc0, _⟩ := hx 0 (by omega)
      rw [one4] at hc0
      obtain ⟨_, hl0, hcell0⟩ := World.cells?_some hc0
      have h00 := hcell0 0 (by omega)
      rw [List.getElem?_eq_getElem (by omega)] at h00
      have := World.cell?_spot h00
      simpa [Addr.add] using this
    subst hspot
    rw [add_plain, add_plain, Nat.mul_one, Nat.add_zero] at h0
    have h0 : W.cell? ⟨b, off + i, none⟩ = some (.bool x) := h0
    exact ⟨b, off, x, rfl, cell_lt h0, h0⟩
end
end Go.Proofs.Ytnnonkmkdjhacaa.LinesOps

namespace Go.Proofs.Ytnnonkmkdjhacaa.LinesLaw
open Go.RowKit Go.ChangeShapes Go.WideShapes
theorem infoI : intInfo Try.prog 3 := info_parts (by kernel_rfl)

/-- append(own, z), the new block of one int just laid; where it lies. -/
theorem run_append_int2 {P : Program} (w : World) (base : Nat) (t ty e : TypeId) (ht : P.underlying t = some (.slice e)) (hi : intInfo P e) (v : Value) (zs : List Int) (hown : OwnI w base e v zs)
    (z : Int) (hlen : zs.length ≤ 1000000000000) (hbase : base ≤ w.heap.size) :
    ∃ v' w', (Builtin.append_ #[t, t] ty #[v, .slice (some ⟨w.heap.size, 0, none⟩) 1 1]).run P (w.alloc (.cells #[.int .i64 z] e)) = .ok v' w' ∧ OwnI w' base e v' (zs ++ [z]) ∧ (w.alloc (.cells #[.int .i64 z] e)).grownBy w' v.ownBlock ∧ (∀ b, v'.ownBlock = some b → v.ownBlock = some b ∨ w.heap.size < b) := by
  obtain ⟨i, hi, hz, hsz, hby⟩ := hi
  have hmx : (140737488355328 : Nat) ≤ maxLen := by decide
  have hsz1 : (w.alloc (.cells #[.int .i64 z] e)).heap.size = w.heap.size + 1 := by simp
  obtain ⟨v', w', hrun, h2, h3, _, h5⟩ := run_append_own_at (P := P) (w.alloc (.cells #[.int .i64 z] e)) base t ty e i (.int .i64 0) 1 8 ht hi hz hsz hby rfl (by omega) v zs.length (zs.map (Value.int .i64)) (hown.alloc _) ⟨w.heap.size, 0, none⟩ 1 1 [.int .i64 z] rfl (nums_of_block w z e)
      (fun u hu => by simp at hu; subst hu; rfl) (by omega) (by omega) (by omega)
  refine ⟨v', w', hrun, ?_, h3, fun b hb => h5.imp (fun h => h.symm.trans hb) (fun h => by rw [hb, hsz1] at h; injection h; omega)⟩
  unfold OwnI
  rw [List.map_append, List.length_append]
  exact h2

/-- Two slices of the call's own, in the two cells of block X. -/
structure Fill (a : World) (X : Nat) (v1 v2 : Value) (gs ws : List Int) (w : World) : Prop where
  box : w.heap[X]? = some (.cells #[v1, v2] 36 (0, 0))
  o1 : OwnI w a.heap.size 3 v1 gs
  o2 : OwnI w a.heap.size 3 v2 ws
  x0 : a.heap.size ≤ X
  x1 : v1.ownBlock ≠ some X
  x2 : v2.ownBlock ≠ some X
  ne : ∀ k, v1.ownBlock = some k → v2.ownBlock ≠ some k
  below : Below a.heap.size a w

section
variable {a w : World} {X : Nat} {v1 v2 : Value} {gs ws : List Int}

theorem Fill.lt (h : Fill a X v1 v2 gs ws w) : X < w.heap.size := (Array.getElem?_eq_some_iff.1 h.box).1
theorem Fill.cells (h : Fill a X v1 v2 gs ws w) : w.cell? ⟨X, 0, none⟩ = some v1 ∧ w.cell? ⟨X, 1, none⟩ = some v2 := by
  refine ⟨?_, ?_⟩ <;> simp [World.cell?, h.box]

theorem Fill.good (h : Fill a X v1 v2 gs ws w) (z : Int) (hl : gs.length ≤ 1000000) :
    ∃ (A : Option Addr) (n c : Nat) (w4 : World), (Builtin.append_ #[24, 24] 24 #[v1, .slice (some ⟨w.heap.size, 0, none⟩) 1 1]).run Try.prog (w.alloc (.cells #[.int .i64 z] 3)) = .ok (.slice A n c) w4 ∧
      w4.cell? ⟨X, 0, none⟩ = some v1 ∧ w4.frozen? ⟨X, 0, none⟩ = false ∧ w4.cell? ⟨X, 1, none⟩ = some v2 ∧ Fill a X (.slice A n c) v2 (gs ++ [z]) ws (w4.setCell ⟨X, 0, none⟩ (.slice A n c)) := by
  obtain ⟨v', w4, hrun, hrow, hg, hnew⟩ := run_append_int2 (P := Try.prog) w a.heap.size 24 24 3 Try.underlying24 infoI v1 gs h.o1 z (by omega) h.below.size
  obtain ⟨A, n, c, rfl⟩ := hrow.form
  have hs4 : w.heap.size + 1 ≤ w4.heap.size := by have := hg.size; simpa using this
  have k4 : ∀ b, b < w.heap.size → v1.ownBlock ≠ some b → w4.heap[b]? = w.heap[b]? := fun b hb hn => by
    rw [hg.block b (by simp; omega) (fun e => hn e.symm), Below.heap_alloc w _ b hb]
  have hX := h.lt
  have hbx : w4.heap[X]? = some (.cells #[v1, v2] 36 (0, 0)) := (k4 X hX h.x1).trans h.box
  have hx1 : (Value.slice A n c).ownBlock ≠ some X := fun e => (hnew X e).elim h.x1 (fun h4 => by omega)
  refine ⟨A, n, c, w4, hrun, by simp [World.cell?, hbx], by simp [World.frozen?, hbx], by simp [World.cell?, hbx], ?_, ?_, ?_, h.x0, hx1, h.x2, ?_, ?_⟩
  · simp [World.setCell, Array.getElem?_modify, hbx]
  · exact hrow.keep fun k hk => Below.heap_setCell _ _ _ _ (fun e => hx1 (by rw [hk]; exact congrArg some e))
  · refine h.o2.keep fun k hk => ?_
    rw [Below.heap_setCell _ _ _ _ (fun e => h.x2 (by rw [hk]; exact congrArg some e))]
    exact k4 k (h.o2.lt k hk) (fun e => h.ne k e hk)
  · exact fun k hk => (hnew k hk).elim (h.ne k) (fun h4 e => by have := h.o2.lt k e; omega)
  · exact ((h.below.alloc h.below.size _).grown hg (by simp; have := h.below.size; omega) (fun k hk => h.o1.block k hk)).setCell (p := ⟨X, 0, none⟩) h.x0 _

theorem Fill.wear (h : Fill a X v1 v2 gs ws w) (z : Int) (hl : ws.length ≤ 1000000) :
    ∃ (A : Option Addr) (n c : Nat) (w4 : World), (Builtin.append_ #[24, 24] 24 #[v2, .slice (some ⟨w.heap.size, 0, none⟩) 1 1]).run Try.prog (w.alloc (.cells #[.int .i64 z] 3)) = .ok (.slice A n c) w4 ∧
      w4.cell? ⟨X, 1, none⟩ = some v2 ∧ w4.frozen? ⟨X, 1, none⟩ = false ∧ Fill a X v1 (.slice A n c) gs (ws ++ [z]) (w4.setCell ⟨X, 1, none⟩ (.slice A n c)) := by
  obtain ⟨v', w4, hrun, hrow, hg, hnew⟩ := run_append_int2 (P := Try.prog) w a.heap.size 24 24 3 Try.underlying24 infoI v2 ws h.o2 z (by omega) h.below.size
  obtain ⟨A, n, c, rfl⟩ := hrow.form
  have hs4 : w.heap.size + 1 ≤ w4.heap.size := by have := hg.size; simpa using this
  have k4 : ∀ b, b < w.heap.size → v2.ownBlock ≠ some b → w4.heap[b]? = w.heap[b]? := fun b hb hn => by
    rw [hg.block b (by simp; omega) (fun e => hn e.symm), Below.heap_alloc w _ b hb]
  have hX := h.lt
  have hbx : w4.heap[X]? = some (.cells #[v1, v2] 36 (0, 0)) := (k4 X hX h.x2).trans h.box
  have hx2 : (Value.slice A n c).ownBlock ≠ some X := fun e => (hnew X e).elim h.x2 (fun h4 => by omega)
  refine ⟨A, n, c, w4, hrun, by simp [World.cell?, hbx], by simp [World.frozen?, hbx], ?_, ?_, ?_, h.x0, h.x1, hx2, ?_, ?_⟩
  · simp [World.setCell, Array.getElem?_modify, hbx]
  · refine h.o1.keep fun k hk => ?_
    rw [Below.heap_setCell _ _ _ _ (fun e => h.x1 (by rw [hk]; exact congrArg some e))]
    exact k4 k (h.o1.lt k hk) (h.ne k hk)
  · exact hrow.keep fun k hk => Below.heap_setCell _ _ _ _ (fun e => hx2 (by rw [hk]; exact congrArg some e))
  · exact fun k hk e => (hnew k e).elim (h.ne k hk) (fun h4 => by have := h.o1.lt k hk; omega)
  · exact ((h.below.alloc h.below.size _).grown hg (by simp; have := h.below.size; omega) (fun k hk => h.o2.block k hk)).setCell (p := ⟨X, 1, none⟩) h.x0 _
end
end Go.Proofs.Ytnnonkmkdjhacaa.LinesLaw
