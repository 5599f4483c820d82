/-
  What package ring's 'at' does, and the tests of a slot.
-/
import Derived.Test.YtecmmihobojjpaaRingWalks
namespace Go.Proofs.Ytecmmihobojjpaa.RingPkg
open Go.RowKit Ring
set_option maxRecDepth 4000

section
variable {w : World} {P : Pl} {size t : Int} {rs : List Row}

theorem at_low (h : Rng w P size t rs) (pos : Int) (hp : pos < t) : Calls Try.prog 46 #[ptr P.g, .int .i64 pos] w fun e w' => e = .returned (.pointer none) ∧ Below w.heap.size w w' := by
  obtain ⟨_, hc1, _⟩ := h.cells
  clear h
  go_enter Try.func46, Try.ntmps46
  go_wp2
  go_ret
  exact ⟨rfl, Below.refl _ _⟩

theorem at_high (h : Rng w P size t rs) (h0 : 0 ≤ t) (h1 : t + rs.length ≤ 1000000000000) (pos : Int) (hp : t + rs.length ≤ pos) : Calls Try.prog 46 #[ptr P.g, .int .i64 pos] w fun e w' => e = .returned (.pointer none) ∧ Below w.heap.size w w' := by
  obtain ⟨_, hc1, _⟩ := h.cells
  have HH := Lib.hid (Head_any h h0 h1)
  have hp0 : ¬ pos < t := by omega
  clear h
  generalize rs.length = n at HH h1 hp
  go_enter Try.func46, Try.ntmps46
  go_wp2_with fail
  refine HH.out.mono ?_
  rintro e w2 ⟨rfl, k, hw⟩
  have HB : Hid (Below w.heap.size w w2) := Lib.hid (by rw [hw]; exact below_draws (Below.refl _ _) k)
  clear hw
  go_wp2
  go_ret
  exact ⟨rfl, HB.out⟩

theorem at_in (h : Rng w P size t rs) (h0 : 0 ≤ t) (h1 : t + rs.length ≤ 1000000000000) (pos : Int) (i b n c : Nat) (hp : pos = t + i) (hi : i < rs.length) (hv : P.v = .slice (some ⟨b, 0, none⟩) n c) : Calls Try.prog 46 #[ptr P.g, .int .i64 pos] w fun e w' => e = .returned (.pointer (some ⟨b, i * 6, none⟩)) ∧ Below w.heap.size w w' := by
  obtain ⟨A, c', hv', _, hcm, _⟩ := h.slice
  rw [hv] at hv'
  injection hv' with e1 e2 e3
  subst e1 e2 e3
  obtain ⟨_, hc1, _⟩ := h.cells
  have HH := Lib.hid (Head_any h h0 h1)
  have HR := Lib.hid h
  have HV := Lib.hid hv
  have hp0 : ¬ pos < t := by omega
  have hp1 : ¬ t + rs.length ≤ pos := by omega
  have hw : IntKind.i64.wrap (pos - t) = (i : Int) := by rw [kwrap_is (by omega) (by omega)]; omega
  have hw2 : wrap64 (pos - t) = (i : Int) := by rw [IntWalk.wrap64_in _ (by omega)]; omega
  clear h hv hp
  have hi2 : decide (i < rs.length) = true := by simpa using hi
  generalize hn : rs.length = n at *
  have HN := Lib.hid hn
  clear hn
  go_enter Try.func46, Try.ntmps46
  go_wp2_with fail
  refine HH.out.mono ?_
  rintro e w2 ⟨rfl, k, hw⟩
  have HB : Hid (Below w.heap.size w w2) := Lib.hid (by rw [hw]; exact below_draws (Below.refl _ _) k)
  replace HR := Lib.hid (HR.out.below HB.out)
  clear hw hc1 HH
  obtain ⟨_, hc1, hc2⟩ := HR.out.cells
  rw [HV.out] at hc2
  go_wp2
  go_quiet (fail)
  go_wp2
  go_ret
  exact ⟨rfl, below_draws HB.out _⟩
end

abbrev rowV (r : Row) : Value := .agg #[.int .i64 r.s.k, .int .i64 r.s.l, .int .i64 r.s.s, r.v, .int .i64 r.s.f, .int .i64 r.q]

def waitsB (r : Row) : Bool := decide (r.q = 0)
def leftB (r : Row) : Bool := !decide (r.q = 2)
def mineB (lba : Int) (r : Row) : Bool := decide (r.s.l = lba) && decide (r.s.f < 0)

theorem waits_any (r : Row) (w : World) (hv : ∃ A n c, r.v = .slice A n c) : Calls Try.prog 32 #[rowV r] w fun e w' => e = .returned (.bool (waitsB r)) ∧ Below w.heap.size w w' := by
  obtain ⟨s, q, v⟩ := r
  obtain ⟨A, n, c, rfl⟩ := hv
  go_enter Try.func32, Try.ntmps32
  go_wp2
  go_ret
  exact ⟨rfl, (Below.refl _ _).alloc (Nat.le_refl _) _⟩

theorem isLeft_any (r : Row) (w : World) (hv : ∃ A n c, r.v = .slice A n c) : Calls Try.prog 51 #[rowV r] w fun e w' => e = .returned (.bool (leftB r)) ∧ Below w.heap.size w w' := by
  obtain ⟨s, q, v⟩ := r
  obtain ⟨A, n, c, rfl⟩ := hv
  go_enter Try.func51, Try.ntmps51
  go_wp2
  go_ret
  exact ⟨rfl, (Below.refl _ _).alloc (Nat.le_refl _) _⟩

theorem mine_any (lba : Int) (B : Nat) (r : Row) (w : World) (hv : ∃ A n c, r.v = .slice A n c) (hc : w.cell? ⟨B, 0, none⟩ = some (.int .i64 lba)) : Calls Try.prog 47 #[rowV r, .pointer (some ⟨B, 0, none⟩)] w fun e w' => e = .returned (.bool (mineB lba r)) ∧ Below w.heap.size w w' := by
  obtain ⟨⟨k, l, s, d, f⟩, q, v⟩ := r
  obtain ⟨A, n, c, rfl⟩ := hv
  have hlt : B < w.heap.size := World.block_lt_of_cell? _ _ hc
  have hne : ¬ w.heap.size = B := by omega
  by_cases hl : l = lba
  · have HL := Lib.hid hl
    have h1 : ((l : Int) == lba) = true := by simpa using hl
    clear hl
    go_enter Try.func47, Try.ntmps47
    go_wp2
    go_ret
    exact ⟨by simp [mineB, HL.out], (Below.refl _ _).alloc (Nat.le_refl _) _⟩
  · have h1 : ((l : Int) == lba) = false := by simpa using hl
    have HL := Lib.hid hl
    go_enter Try.func47, Try.ntmps47
    go_wp2
    go_ret
    exact ⟨by simp [mineB, HL.out], (Below.refl _ _).alloc (Nat.le_refl _) _⟩
end Go.Proofs.Ytecmmihobojjpaa.RingPkg
