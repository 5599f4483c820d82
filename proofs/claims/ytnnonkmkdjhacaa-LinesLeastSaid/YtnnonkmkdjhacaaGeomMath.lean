/-
  Geometries, places and addresses: the mathematics. Nothing of the program is named here.
-/
namespace Go.Proofs.Ytnnonkmkdjhacaa.Geom

/-- A geometry that may be. -/
def ok (c l k p s : Int) : Prop := 1 ≤ c ∧ c ≤ 4 ∧ 1 ≤ l ∧ l ≤ 2 ∧ 1 ≤ k ∧ k ≤ 64 ∧ 1 ≤ p ∧ p ≤ 32 ∧ 1 ≤ s ∧ s ≤ 4
instance (c l k p s : Int) : Decidable (ok c l k p s) := by unfold ok; infer_instance

theorem mul_bd {a b A B : Int} (h0 : 1 ≤ a) (h1 : a ≤ A) (h2 : 1 ≤ b) (h3 : b ≤ B) : 1 ≤ a * b ∧ a * b ≤ A * B := by
  have h4 := Int.mul_le_mul h0 h2 (by omega) (by omega)
  have h5 := Int.mul_le_mul h1 h3 (by omega) (by omega)
  omega

/-- The units, the sectors of a row of pages, of a line, of all lines. -/
structure Sizes (c l k p s U R L N : Int) : Prop where
  may : ok c l k p s
  u : U = c * l
  r : R = U * s
  l : L = p * R
  n : N = k * L
  u0 : 1 ≤ U
  u1 : U ≤ 8
  r0 : 1 ≤ R
  r1 : R ≤ 32
  l0 : 1 ≤ L
  l1 : L ≤ 1024
  n0 : 1 ≤ N
  n1 : N ≤ 65536

theorem sizes {c l k p s : Int} (h : ok c l k p s) : Sizes c l k p s (c * l) (c * l * s) (p * (c * l * s)) (k * (p * (c * l * s))) := by
  obtain ⟨a0, a1, a2, a3, a4, a5, a6, a7, a8, a9⟩ := h
  have hu := mul_bd a0 a1 a2 a3
  have hr := mul_bd hu.1 (show c * l ≤ 8 by omega) a8 a9
  have hl := mul_bd a6 a7 hr.1 (show c * l * s ≤ 32 by omega)
  have hn := mul_bd a4 a5 hl.1 (show p * (c * l * s) ≤ 1024 by omega)
  exact ⟨⟨a0, a1, a2, a3, a4, a5, a6, a7, a8, a9⟩, rfl, rfl, rfl, rfl, hu.1, by omega, hr.1, by omega, hl.1, by omega, hn.1, by omega⟩

/-- A place that there is. -/
def there (U k p s u b g t : Int) : Prop := 0 ≤ u ∧ u < U ∧ 0 ≤ b ∧ b < k ∧ 0 ≤ g ∧ g < p ∧ 0 ≤ t ∧ t < s
instance (U k p s u b g t : Int) : Decidable (there U k p s u b g t) := by unfold there; infer_instance

theorem divmod {q d r : Int} (h0 : 0 ≤ r) (h1 : r < d) : (q * d + r) / d = q ∧ (q * d + r) % d = r := by
  constructor
  · rw [Int.add_comm, Int.add_mul_ediv_right _ _ (by omega), Int.ediv_eq_zero_of_lt h0 h1]
    omega
  · rw [Int.add_comm, Int.add_mul_emod_self_right]
    exact Int.emod_eq_of_lt h0 h1

theorem step {q d r Q D : Int} (h0 : 0 ≤ r) (h1 : r < d) (q0 : 0 ≤ q) (q1 : q < Q) (hD : D = Q * d) : 0 ≤ q * d + r ∧ q * d + r < D := by
  have h2 : 0 ≤ q * d := Int.mul_nonneg q0 (by omega)
  have h3 : (q + 1) * d ≤ Q * d := Int.mul_le_mul_of_nonneg_right (by omega) (by omega)
  rw [Int.add_mul] at h3
  omega

section
variable {c l k p s U R L N : Int}

/-- The place of an address. -/
theorem of_number (h : Sizes c l k p s U R L N) {u b g t a : Int} (hp : there U k p s u b g t) (ha : a = b * L + g * R + u * s + t) :
    0 ≤ a ∧ a < N ∧ a % R / s = u ∧ a / L = b ∧ a % L / R = g ∧ a % s = t := by
  obtain ⟨u0, u1, b0, b1, g0, g1, t0, t1⟩ := hp
  have A1 := step t0 t1 u0 u1 h.r
  have A2 := step A1.1 A1.2 g0 g1 h.l
  have A3 := step A2.1 A2.2 b0 b1 h.n
  have e : a = b * L + (g * R + (u * s + t)) := by omega
  have D1 := divmod (q := u) t0 t1
  have D2 := divmod (q := g) A1.1 A1.2
  have D3 := divmod (q := b) A2.1 A2.2
  have m1 : a % R = u * s + t := by
    rw [e, h.l, show b * (p * R) + (g * R + (u * s + t)) = (u * s + t) + (b * p + g) * R by rw [Int.add_mul, Int.mul_assoc]; omega, Int.add_mul_emod_self_right]
    exact Int.emod_eq_of_lt A1.1 A1.2
  have m2 : a % s = t := by
    have : a % R % s = a % s := Int.emod_emod_of_dvd a (by rw [h.r]; exact Int.dvd_mul_left ..)
    rw [← this, m1]
    exact D1.2
  refine ⟨by omega, by omega, ?_, ?_, ?_, m2⟩
  · rw [m1]; exact D1.1
  · rw [e]; exact D3.1
  · rw [e, D3.2]; exact D2.1

theorem parts_bd (h : Sizes c l k p s U R L N) {u b g t : Int} (hp : there U k p s u b g t) : 0 ≤ b * L ∧ 0 ≤ g * R ∧ 0 ≤ u * s ∧ 0 ≤ t ∧ b * L + g * R + u * s + t ≤ 65536 := by
  have hn := (of_number h hp rfl).2.1
  have n1 := h.n1
  have r0 := h.r0
  have l0 := h.l0
  have hm := h.may
  unfold ok at hm
  obtain ⟨u0, u1, b0, b1, g0, g1, t0, t1⟩ := hp
  exact ⟨Int.mul_nonneg b0 (by omega), Int.mul_nonneg g0 (by omega), Int.mul_nonneg u0 (by omega), t0, by omega⟩

/-- The address of a place. -/
theorem number_of (h : Sizes c l k p s U R L N) {a : Int} (h0 : 0 ≤ a) (h1 : a < N) :
    there U k p s (a % R / s) (a / L) (a % L / R) (a % s) ∧ a / L * L + a % L / R * R + a % R / s * s + a % s = a := by
  have hm := h.may
  unfold ok at hm
  have r0 := h.r0
  have l0 := h.l0
  have aL0 := Int.emod_nonneg a (show L ≠ 0 by omega)
  have aL1 := Int.emod_lt_of_pos a (show 0 < L by omega)
  have aR0 := Int.emod_nonneg a (show R ≠ 0 by omega)
  have aR1 := Int.emod_lt_of_pos a (show 0 < R by omega)
  have as0 := Int.emod_nonneg a (show s ≠ 0 by omega)
  have as1 := Int.emod_lt_of_pos a (show 0 < s by omega)
  have e1 : a % L % R = a % R := Int.emod_emod_of_dvd a (by rw [h.l]; exact Int.dvd_mul_left ..)
  have e2 : a % R % s = a % s := Int.emod_emod_of_dvd a (by rw [h.r]; exact Int.dvd_mul_left ..)
  have d1 := Int.mul_ediv_add_emod a L
  have d2 := Int.mul_ediv_add_emod (a % L) R
  have d3 := Int.mul_ediv_add_emod (a % R) s
  rw [e1] at d2
  rw [e2] at d3
  refine ⟨⟨Int.ediv_nonneg aR0 (by omega), Int.ediv_lt_of_lt_mul (by omega) (by rw [← h.r]; exact aR1), Int.ediv_nonneg h0 (by omega), Int.ediv_lt_of_lt_mul (by omega) (by rw [← h.n]; exact h1),
    Int.ediv_nonneg aL0 (by omega), Int.ediv_lt_of_lt_mul (by omega) (by rw [← h.l]; exact aL1), as0, as1⟩, ?_⟩
  rw [Int.mul_comm (a / L), Int.mul_comm (a % L / R), Int.mul_comm (a % R / s)]
  omega

end
end Go.Proofs.Ytnnonkmkdjhacaa.Geom
