/-
  Lines in memory: a slice of them. Nothing of the program's code is named here.
-/
import Derived.Test.YtodaigdlfpinhaaVictimMath
import Derived.Test.YtodaigdlfpinhaaFive
import Derived.Test.YtodaigdlfpinhaaRowsOwn
namespace Go.Proofs.Ytodaigdlfpinhaa.VictimPkg
open Go.RowKit Victim

theorem below_then {a w w' : World} (h : Below a.heap.size a w) (hb : Below w.heap.size w w') : Below a.heap.size a w' := h.trans (hb.mono h.size)

/-- A line's cells. -/
def lineC (x : Ln) : List Value := [.int .i64 x.st, .int .i64 x.wr, .int .i64 x.gd, .int .i64 x.vd, .int .i64 x.rm]

structure LineAt (w : World) (b o : Nat) (x : Ln) : Prop where
  c0 : w.cell? ⟨b, o, none⟩ = some (.int .i64 x.st)
  c1 : w.cell? ⟨b, o + 1, none⟩ = some (.int .i64 x.wr)
  c2 : w.cell? ⟨b, o + 2, none⟩ = some (.int .i64 x.gd)
  c3 : w.cell? ⟨b, o + 3, none⟩ = some (.int .i64 x.vd)
  c4 : w.cell? ⟨b, o + 4, none⟩ = some (.int .i64 x.rm)

/-- n lines at A, below block B, that are as f says. -/
def Lines (w : World) (B : Nat) (A : Option Addr) (n : Nat) (f : Nat → Ln) : Prop :=
  ∀ i, i < n → ∃ b off, A = some ⟨b, off, none⟩ ∧ b < B ∧ LineAt w b (off + i * 5) (f i)

section
variable {w w' : World} {B b o : Nat} {A : Option Addr} {n : Nat} {f : Nat → Ln} {x : Ln}

theorem LineAt.keep (h : LineAt w b o x) (hk : w'.heap[b]? = w.heap[b]?) : LineAt w' b o x := by
  have hb : ∀ i v, w.cell? ⟨b, i, none⟩ = some v → w'.cell? ⟨b, i, none⟩ = some v := fun i v hv => (World.cell?_of_block (w := w) hk).trans hv
  exact ⟨hb _ _ h.c0, hb _ _ h.c1, hb _ _ h.c2, hb _ _ h.c3, hb _ _ h.c4⟩

theorem Lines.keep (h : Lines w B A n f) (hk : Below B w w') : Lines w' B A n f := fun i hi => by
  obtain ⟨b, off, e, hb, hl⟩ := h i hi
  exact ⟨b, off, e, hb, hl.keep (hk.block b hb)⟩

theorem Lines.form (h : Lines w B A n f) (hn : 0 < n) : ∃ b off, A = some ⟨b, off, none⟩ ∧ b < B ∧ ∀ i, i < n → LineAt w b (off + i * 5) (f i) := by
  obtain ⟨b, off, e, hb, _⟩ := h 0 hn
  refine ⟨b, off, e, hb, fun i hi => ?_⟩
  obtain ⟨b', off', e', _, hl⟩ := h i hi
  rw [e] at e'
  injection e' with e'
  injection e' with e1 e2
  subst e1 e2
  exact hl

theorem Lines.congr {g : Nat → Ln} (h : Lines w B A n f) (he : ∀ i, i < n → f i = g i) : Lines w B A n g := fun i hi => by
  rw [← he i hi]
  exact h i hi

theorem Lines.mono {B' : Nat} (h : Lines w B A n f) (hB : B ≤ B') : Lines w B' A n f := fun i hi => by
  obtain ⟨b, off, e, hb, hl⟩ := h i hi
  exact ⟨b, off, e, by omega, hl⟩

/-- Rows that a call made are lines. -/
theorem lines_own {base : Nat} {e : TypeId} {n c : Nat} (h : OwnR w base e 5 (.slice A n c) ((List.range n).map fun i => lineC (f i))) : Lines w w.heap.size A n f := fun i hi => by
  obtain ⟨A', c', hv, _, _, h5⟩ := h.form
  simp only [List.length_map, List.length_range] at hv h5
  injection hv with e1 e2 e3
  subst e1
  obtain ⟨g, rfl⟩ := h5 (by omega)
  have hr : ((List.range n).map fun i => lineC (f i))[i]? = some (lineC (f i)) := by simp [hi]
  have h0 := (h.cell hr (j := 0) rfl).1
  rw [Nat.add_zero] at h0
  refine ⟨g, 0, rfl, World.block_lt_of_cell? _ _ h0, ?_⟩
  rw [Nat.zero_add]
  exact ⟨h0, (h.cell hr (j := 1) rfl).1, (h.cell hr (j := 2) rfl).1, (h.cell hr (j := 3) rfl).1, (h.cell hr (j := 4) rfl).1⟩
end

end Go.Proofs.Ytodaigdlfpinhaa.VictimPkg
