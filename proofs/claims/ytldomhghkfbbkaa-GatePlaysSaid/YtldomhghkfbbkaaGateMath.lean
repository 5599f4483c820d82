/-
  Plain mathematics of layer 14: how tokens are parted. Nothing of the program's code is named here.
-/
import Derived.Test.YtldomhghkfbbkaaBytes
namespace Go.Proofs.Ytldomhghkfbbkaa.Gate

def ok (low high many : Int) : Bool := decide (0 ≤ low) && decide (low < high) && decide (high ≤ 4096) && decide (0 ≤ many) && decide (many ≤ 256)

theorem ok_iff (low high many : Int) : ok low high many = true ↔ 0 ≤ low ∧ low < high ∧ high ≤ 4096 ∧ 0 ≤ many ∧ many ≤ 256 := by
  simp [ok, and_assoc]

/-- The clients' share. -/
def fst (free low high many : Int) : Int := if ok low high many then (if free ≤ low then 0 else if high ≤ free then many else many * (free - low) / (high - low)) else 0
/-- The others'. -/
def snd (free low high many : Int) : Int := if ok low high many then many - fst free low high many else 0

section
variable {free low high many : Int}

theorem bad (h : ok low high many = false) : fst free low high many = 0 ∧ snd free low high many = 0 := by
  simp [fst, snd, h]

theorem low_case (h : ok low high many = true) (hf : free ≤ low) : fst free low high many = 0 ∧ snd free low high many = many := by
  simp [fst, snd, h, hf]

theorem high_case (h : ok low high many = true) (hf : high ≤ free) : fst free low high many = many ∧ snd free low high many = 0 := by
  have hk := (ok_iff _ _ _).1 h
  have h1 : ¬ free ≤ low := by omega
  simp [fst, snd, h, h1, hf]

theorem mid_case (h : ok low high many = true) (hl : low < free) (hh : free < high) : fst free low high many = many * (free - low) / (high - low) ∧ snd free low high many = many - many * (free - low) / (high - low) := by
  have h1 : ¬ free ≤ low := by omega
  have h2 : ¬ high ≤ free := by omega
  simp [fst, snd, h, h1, h2]

/-- Within the bounds: the product's bounds, and the quotient's. -/
theorem mid_bounds (h : ok low high many = true) (hl : low ≤ free) (hh : free ≤ high) : 0 ≤ many * (free - low) ∧ many * (free - low) ≤ 1048576 ∧ 0 ≤ many * (free - low) / (high - low) ∧ many * (free - low) / (high - low) ≤ many := by
  obtain ⟨h1, h2, h3, h4, h5⟩ := (ok_iff _ _ _).1 h
  have hq : 0 < high - low := by omega
  have hd0 : 0 ≤ free - low := by omega
  have hd1 : free - low ≤ high - low := by omega
  have hp0 : 0 ≤ many * (free - low) := Int.mul_nonneg h4 hd0
  have hp1 : many * (free - low) ≤ 256 * 4096 := Int.mul_le_mul h5 (by omega) hd0 (by omega)
  have hp2 : many * (free - low) ≤ many * (high - low) := Int.mul_le_mul_of_nonneg_left hd1 h4
  refine ⟨hp0, by omega, Int.ediv_nonneg hp0 (by omega), ?_⟩
  exact Int.ediv_le_of_le_mul hq hp2

theorem bounds (h : ok low high many = true) : 0 ≤ fst free low high many ∧ fst free low high many ≤ many := by
  have hk := (ok_iff _ _ _).1 h
  by_cases h1 : free ≤ low
  · rw [(low_case h h1).1]; omega
  · by_cases h2 : high ≤ free
    · rw [(high_case h h2).1]; omega
    · rw [(mid_case h (by omega) (by omega)).1]
      have := mid_bounds h (free := free) (by omega) (by omega)
      omega

theorem all (h : ok low high many = true) : fst free low high many + snd free low high many = many := by
  simp [snd, h]; omega

theorem rises {more : Int} (h : ok low high many = true) (hm : free ≤ more) : fst free low high many ≤ fst more low high many := by
  obtain ⟨k1, k2, k3, k4, k5⟩ := (ok_iff _ _ _).1 h
  by_cases h1 : free ≤ low
  · rw [(low_case h h1).1]; exact (bounds h).1
  · by_cases h2 : high ≤ more
    · rw [(high_case h h2).1]; exact (bounds h).2
    · rw [(mid_case h (by omega) (by omega)).1, (mid_case h (free := more) (by omega) (by omega)).1]
      exact Int.ediv_le_ediv (by omega) (Int.mul_le_mul_of_nonneg_left (by omega) k4)

/-- Held within the bounds, free yields the same. -/
theorem held (h : ok low high many = true) {m : Int} (hm : m = if high < (if free < low then low else free) then high else (if free < low then low else free)) :
    low ≤ m ∧ m ≤ high ∧ many * (m - low) / (high - low) = fst free low high many := by
  obtain ⟨k1, k2, k3, k4, k5⟩ := (ok_iff _ _ _).1 h
  by_cases h1 : free ≤ low
  · have : m = low := by rw [hm]; split <;> split <;> omega
    subst this
    rw [(low_case h h1).1]
    refine ⟨by omega, by omega, by simp⟩
  · by_cases h2 : high ≤ free
    · have : m = high := by rw [hm]; split <;> (try split) <;> omega
      subst this
      rw [(high_case h h2).1]
      refine ⟨by omega, by omega, Int.mul_ediv_cancel _ (by omega)⟩
    · have : m = free := by rw [hm]; split <;> (try split) <;> omega
      subst this
      rw [(mid_case h (by omega) (by omega)).1]
      exact ⟨by omega, by omega, rfl⟩

/-- The document's way: one more as long as its share is not above. -/
theorem more (h : ok low high many = true) (hl : low < free) (hh : free < high) {n : Int} (hlt : n < fst free low high many) : n < many ∧ (n + 1) * (high - low) ≤ many * (free - low) := by
  obtain ⟨k1, k2, k3, k4, k5⟩ := (ok_iff _ _ _).1 h
  have hb := bounds h (free := free)
  refine ⟨by omega, ?_⟩
  rw [(mid_case h hl hh).1] at hlt
  exact (Int.le_ediv_iff_mul_le (by omega)).1 (by omega)

theorem last (h : ok low high many = true) (hl : low < free) (hh : free < high) {n : Int} (hn : n = fst free low high many) : ¬ (n + 1) * (high - low) ≤ many * (free - low) := by
  intro hc
  rw [(mid_case h hl hh).1] at hn
  have := (Int.le_ediv_iff_mul_le (by omega : 0 < high - low)).2 hc
  omega
end
end Go.Proofs.Ytldomhghkfbbkaa.Gate
