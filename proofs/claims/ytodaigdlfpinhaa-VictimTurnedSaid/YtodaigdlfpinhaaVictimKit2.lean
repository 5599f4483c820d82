/-
  Lines put together anew by a law: rows of them, parts of them, one more.
-/
import Derived.Test.YtodaigdlfpinhaaVictimKit
import Derived.Test.YtodaigdlfpinhaaRowsMore
namespace Go.Proofs.Ytodaigdlfpinhaa.VictimLaw
open Go.RowKit Victim VictimPkg Lib
set_option maxRecDepth 4000

theorem infoLine : rowInfo Try.prog 33 5 40 := by
  have h : (Try.prog.info? 33).map (fun i => (i.zero, i.size, i.bytes)) = some (some (.agg #[.int .i64 0, .int .i64 0, .int .i64 0, .int .i64 0, .int .i64 0]), 5, 40) := by kernel_rfl
  obtain ⟨i, hi, hzz⟩ := Option.map_eq_some_iff.1 h
  simp only [Prod.mk.injEq] at hzz
  exact ⟨i, _, hi, hzz.1, hzz.2.1, hzz.2.2, rfl⟩

def lrows (f : Nat → Ln) (n : Nat) : List (List Value) := (List.range n).map fun i => lineC (f i)
theorem lrows_len (f : Nat → Ln) (n : Nat) : (lrows f n).length = n := by simp [lrows]

theorem lineC_one (x : Ln) : ∀ u ∈ lineC x, u.oneCell' = true := by
  intro u hu
  simp only [lineC, List.mem_cons, List.not_mem_nil, or_false] at hu
  rcases hu with rfl | rfl | rfl | rfl | rfl <;> rfl

theorem line_at {w : World} {b o : Nat} {x : Ln} (h : LineAt w b o x) : ∀ j u, (lineC x)[j]? = some u → w.cell? ⟨b, o + j, none⟩ = some u := by
  intro j u hu
  match j, hu with
  | 0, hu => simp only [lineC, List.getElem?_cons_zero, Option.some.injEq] at hu; subst hu; exact h.c0
  | 1, hu => simp only [lineC, List.getElem?_cons_succ, List.getElem?_cons_zero, Option.some.injEq] at hu; subst hu; exact h.c1
  | 2, hu => simp only [lineC, List.getElem?_cons_succ, List.getElem?_cons_zero, Option.some.injEq] at hu; subst hu; exact h.c2
  | 3, hu => simp only [lineC, List.getElem?_cons_succ, List.getElem?_cons_zero, Option.some.injEq] at hu; subst hu; exact h.c3
  | 4, hu => simp only [lineC, List.getElem?_cons_succ, List.getElem?_cons_zero, Option.some.injEq] at hu; subst hu; exact h.c4
  | j + 5, hu => simp [lineC] at hu

section
variable {w : World} {B : Nat} {A : Option Addr} {n : Nat} {f : Nat → Ln}

theorem lrows_at {i : Nat} {r : List Value} (h : (lrows f n)[i]? = some r) : i < n ∧ r = lineC (f i) := by
  unfold lrows at h
  rw [List.getElem?_map, Option.map_eq_some_iff] at h
  obtain ⟨k, hk, rfl⟩ := h
  obtain ⟨h1, h2⟩ := List.getElem?_eq_some_iff.1 hk
  simp at h1 h2
  subst h2
  exact ⟨h1, rfl⟩

theorem rows_of_lines (h : Lines w B A n f) : Rows w B 5 A n (lrows f n) := by
  refine ⟨lrows_len f n, fun i r hi => ?_⟩
  obtain ⟨h1, rfl⟩ := lrows_at hi
  obtain ⟨b, off, e, hb, hl⟩ := h i h1
  exact ⟨rfl, lineC_one _, b, off, e, hb, fun j u hu => by rw [← Nat.add_assoc]; exact line_at hl j u hu⟩

theorem rows_from {b off : Nat} (h : Lines w B (some ⟨b, off, none⟩) n f) (k : Nat) : Rows w B 5 (some ⟨b, off + k * 5, none⟩) (n - k) (lrows (fun i => f (k + i)) (n - k)) := by
  refine ⟨lrows_len _ _, fun i r hi => ?_⟩
  obtain ⟨h1, rfl⟩ := lrows_at hi
  obtain ⟨b', off', e, hb, hl⟩ := h (k + i) (by omega)
  injection e with e
  injection e with e1 e2
  subst e1 e2
  exact ⟨rfl, lineC_one _, b, _, rfl, hb, fun j u hu => by rw [show off + k * 5 + (i * 5 + j) = off + (k + i) * 5 + j by rw [Nat.add_mul]; omega]; exact line_at hl j u hu⟩

theorem rows_to (h : Lines w B A n f) {k : Nat} (hk : k ≤ n) : Rows w B 5 A k (lrows f k) := rows_of_lines (n := k) fun i hi => h i (by omega)
end

/-- Lines, and one more. -/
def plus (f : Nat → Ln) (n : Nat) (y : Ln) : Nat → Ln := fun i => if i < n then f i else y

theorem lrows_plus (f : Nat → Ln) (n : Nat) (y : Ln) : ([] ++ lrows f n) ++ [lineC y] = lrows (plus f n y) (n + 1) := by
  unfold lrows
  rw [List.nil_append, List.range_succ, List.map_append]
  congr 1
  · refine List.map_congr_left fun i hi => ?_
    rw [List.mem_range] at hi
    unfold plus
    rw [if_pos hi]
  · simp [plus]

theorem own_lines {w : World} {base : Nat} {v : Value} {n : Nat} {f : Nat → Ln} (h : OwnR w base 33 5 v (lrows f n)) : ∃ A c, v = .slice A n c ∧ Lines w w.heap.size A n f := by
  obtain ⟨A, c, hv, _⟩ := h.form
  rw [lrows_len] at hv
  subst hv
  exact ⟨A, c, rfl, lines_own h⟩

theorem plus_same {f : Nat → Ln} {n : Nat} {y : Ln} (hy : may y = false) : rks (plus f n y) (n + 1) = rks f n ∧ pick (plus f n y) (n + 1) = pick f n ∧ idx (plus f n y) (n + 1) = idx f n ∧ gain (plus f n y) (n + 1) (n : Int) = 0 := by
  have hp : plus f n y n = y := by simp [plus]
  have hr : rks (plus f n y) (n + 1) = rks f n := more_none (fun i hi => by simp [plus, hi]) (by rw [hp]; exact hy)
  have ho := ord_of hr
  exact ⟨hr, by unfold pick; rw [ho], by unfold idx; rw [ho], gain_no (by omega) (by rw [hp]; exact hy)⟩

/-- Lines from the k-th on, then those ahead of it. -/
def turn (f : Nat → Ln) (n k : Nat) : Nat → Ln := fun i => if i < n - k then f (k + i) else f (i - (n - k))

theorem lrows_turn (f : Nat → Ln) {n k : Nat} (hk : k ≤ n) : ([] ++ lrows (fun i => f (k + i)) (n - k)) ++ lrows f k = lrows (turn f n k) n := by
  refine List.ext_getElem? fun i => ?_
  rw [List.nil_append]
  unfold lrows turn
  by_cases h1 : i < n - k
  · rw [List.getElem?_append_left (by simpa using h1)]
    simp [h1, show i < n by omega]
  · rw [List.getElem?_append_right (by simp; omega)]
    by_cases h2 : i < n
    · simp [h1, h2, show i - (n - k) < k by omega]
    · simp [h2, show ¬ i - (n - k) < k by omega]

theorem turn_perm (f : Nat → Ln) {n k : Nat} (hk : k ≤ n) : ((List.range n).map (turn f n k)).Perm ((List.range n).map f) := by
  have h : (List.range n).map (turn f n k) = ((List.range n).map f).drop k ++ ((List.range n).map f).take k := by
    refine List.ext_getElem? fun i => ?_
    unfold turn
    by_cases h1 : i < n - k
    · rw [List.getElem?_append_left (by simp; omega)]
      simp [h1, show i < n by omega]
    · rw [List.getElem?_append_right (by simp; omega)]
      by_cases h2 : i < n
      · simp only [List.getElem?_map, List.getElem?_take, List.length_drop, List.length_map, List.length_range]
        rw [if_pos (by omega), List.getElem?_range h2, List.getElem?_range (by omega)]
        simp [h1]
      · rw [List.getElem?_eq_none (by simp; omega), List.getElem?_eq_none (by simp; omega)]
  rw [h]
  exact (List.perm_append_comm).trans (by rw [List.take_append_drop])

end Go.Proofs.Ytodaigdlfpinhaa.VictimLaw
