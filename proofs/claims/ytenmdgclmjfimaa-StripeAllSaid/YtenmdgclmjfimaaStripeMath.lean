/-
  Which numbers a line's pages have, which of them count, and the first of them: plain mathematics. Nothing of the program's code is named here.
-/
import Derived.Test.YtenmdgclmjfimaaGeomMath
namespace Go.Proofs.Ytenmdgclmjfimaa.Stripe

/-- The numbers below m that f takes, in order. -/
def sel (f : Int → Bool) : Nat → List Int
  | 0 => []
  | m + 1 => sel f m ++ (if f (m : Int) = true then [(m : Int)] else [])

theorem sel_yes {f : Int → Bool} {m : Nat} (h : f (m : Int) = true) : sel f (m + 1) = sel f m ++ [(m : Int)] := by simp only [sel]; rw [if_pos h]
theorem sel_no {f : Int → Bool} {m : Nat} (h : f (m : Int) = false) : sel f (m + 1) = sel f m := by simp only [sel]; rw [if_neg (by rw [h]; simp), List.append_nil]

theorem sel_mem {f : Int → Bool} {m : Nat} {x : Int} : x ∈ sel f m ↔ 0 ≤ x ∧ x < m ∧ f x = true := by
  induction m with
  | zero => simp [sel]; omega
  | succ m ih =>
    by_cases h : f (m : Int) = true
    · rw [sel_yes h, List.mem_append, ih, List.mem_singleton]
      constructor
      · rintro (⟨h1, h2, h3⟩ | rfl)
        · exact ⟨h1, by omega, h3⟩
        · exact ⟨by omega, by omega, h⟩
      · rintro ⟨h1, h2, h3⟩
        by_cases e : x = (m : Int)
        · exact Or.inr e
        · exact Or.inl ⟨h1, by omega, h3⟩
    · rw [sel_no (by simpa using h), ih]
      constructor
      · rintro ⟨h1, h2, h3⟩
        exact ⟨h1, by omega, h3⟩
      · rintro ⟨h1, h2, h3⟩
        refine ⟨h1, ?_, h3⟩
        have : x ≠ (m : Int) := fun e => h (e ▸ h3)
        omega

theorem sel_none {f : Int → Bool} {m : Nat} (h : ∀ x : Int, 0 ≤ x → x < m → f x = false) : sel f m = [] := by
  refine List.eq_nil_iff_forall_not_mem.2 fun x hx => ?_
  obtain ⟨h1, h2, h3⟩ := sel_mem.1 hx
  rw [h x h1 h2] at h3
  cases h3

theorem sel_len (f : Int → Bool) (m : Nat) : (sel f m).length ≤ m := by
  induction m with
  | zero => simp [sel]
  | succ m ih =>
    by_cases h : f (m : Int) = true
    · rw [sel_yes h]; simp; omega
    · rw [sel_no (by simpa using h)]; omega

theorem sel_le {f g : Int → Bool} (h : ∀ x, f x = true → g x = true) (m : Nat) : (sel f m).length ≤ (sel g m).length := by
  induction m with
  | zero => simp [sel]
  | succ m ih =>
    by_cases hf : f (m : Int) = true
    · rw [sel_yes hf, sel_yes (h _ hf)]; simp; omega
    · rw [sel_no (by simpa using hf)]
      by_cases hg : g (m : Int) = true
      · rw [sel_yes hg]; simp; omega
      · rw [sel_no (by simpa using hg)]; exact ih

theorem sel_same {f g : Int → Bool} {m : Nat} (h : ∀ x : Int, 0 ≤ x → x < m → f x = g x) : sel f m = sel g m := by
  induction m with
  | zero => rfl
  | succ m ih =>
    have e := ih (fun x h1 h2 => h x h1 (by omega))
    have e2 := h (m : Int) (by omega) (by omega)
    simp only [sel]
    rw [e, e2]

/-- Its unit is not dead. -/
def live (zs : List Int) (U k : Int) : Bool := !decide (k % U ∈ zs)
/-- It counts, from a on. -/
def good (zs : List Int) (U a k : Int) : Bool := live zs U k && decide (a ≤ k)

theorem good_yes {zs : List Int} {U a k : Int} (h1 : live zs U k = true) (h2 : a ≤ k) : good zs U a k = true := by simp [good, h1, h2]
theorem good_dead {zs : List Int} {U a k : Int} (h1 : live zs U k = false) : good zs U a k = false := by simp [good, h1]
theorem good_less {zs : List Int} {U a k : Int} (h1 : k < a) : good zs U a k = false := by simp [good]; omega
theorem good_is {zs : List Int} {U a k : Int} : good zs U a k = true ↔ live zs U k = true ∧ a ≤ k := by simp [good]

/-- The first one from a on, below M; -1: there is none. -/
def Nxt (f : Int → Bool) (a M r : Int) : Prop := (r = -1 ∧ ∀ i, a ≤ i → i < M → f i = false) ∨ (a ≤ r ∧ r < M ∧ f r = true ∧ ∀ i, a ≤ i → i < r → f i = false)

theorem Nxt.one {f : Int → Bool} {a M r r' : Int} (h : Nxt f a M r) (h' : Nxt f a M r') : r = r' := by
  rcases h with ⟨e, h1⟩ | ⟨h1, h2, h3, h4⟩
  · rcases h' with ⟨e', _⟩ | ⟨g1, g2, g3, g4⟩
    · rw [e, e']
    · rw [h1 r' g1 g2] at g3
      cases g3
  · rcases h' with ⟨_, g1⟩ | ⟨g1, g2, g3, g4⟩
    · rw [g1 r h1 h2] at h3
      cases h3
    · by_cases c : r < r'
      · rw [g4 r h1 c] at h3
        cases h3
      · by_cases c2 : r' < r
        · rw [h4 r' g1 c2] at g3
          cases g3
        · omega

theorem sel_head {f : Int → Bool} (m : Nat) : (sel f m = [] ∧ ∀ i : Int, 0 ≤ i → i < m → f i = false) ∨ ∃ x l, sel f m = x :: l ∧ 0 ≤ x ∧ x < m ∧ f x = true ∧ ∀ i : Int, 0 ≤ i → i < x → f i = false := by
  induction m with
  | zero => exact Or.inl ⟨rfl, fun i h1 h2 => by omega⟩
  | succ m ih =>
    by_cases h : f (m : Int) = true
    · rw [sel_yes h]
      rcases ih with ⟨e, h1⟩ | ⟨x, l, e, h1, h2, h3, h4⟩
      · exact Or.inr ⟨m, [], by rw [e]; rfl, by omega, by omega, h, h1⟩
      · exact Or.inr ⟨x, l ++ [(m : Int)], by rw [e]; rfl, h1, by omega, h3, h4⟩
    · have h' : f (m : Int) = false := by simpa using h
      rw [sel_no h']
      rcases ih with ⟨e, h1⟩ | ⟨x, l, e, h1, h2, h3, h4⟩
      · refine Or.inl ⟨e, fun i g1 g2 => ?_⟩
        by_cases c : i = (m : Int)
        · rw [c]; exact h'
        · exact h1 i g1 (by omega)
      · exact Or.inr ⟨x, l, e, h1, by omega, h3, h4⟩

/-- What stands first among those that count. -/
theorem sel_nxt (zs : List Int) (U k : Int) (m : Nat) : (sel (good zs U k) m = [] ∧ Nxt (live zs U) (max k 0) m (-1)) ∨ ∃ x l, sel (good zs U k) m = x :: l ∧ Nxt (live zs U) (max k 0) m x := by
  have cut : ∀ i, max k 0 ≤ i → good zs U k i = false → live zs U i = false := fun i h1 h2 => by
    cases h : live zs U i with
    | false => rfl
    | true => rw [good_yes h (by omega)] at h2; cases h2
  rcases sel_head (f := good zs U k) m with ⟨e, h1⟩ | ⟨x, l, e, h1, h2, h3, h4⟩
  · exact Or.inl ⟨e, Or.inl ⟨rfl, fun i g1 g2 => cut i g1 (h1 i (by omega) g2)⟩⟩
  · have h5 := good_is.1 h3
    exact Or.inr ⟨x, l, e, Or.inr ⟨by omega, h2, h5.1, fun i g1 g2 => cut i g1 (h4 i (by omega) g2)⟩⟩

/-- How many count, below m. -/
def many (zs : List Int) (U a : Int) (m : Nat) : Nat := (sel (good zs U a) m).length

theorem many_start (zs : List Int) (U : Int) (a m : Nat) (h : m ≤ a) : many zs U a m = 0 := by
  unfold many
  rw [sel_none (fun x h1 h2 => good_less (by omega))]
  rfl
theorem many_yes {zs : List Int} {U a : Int} {m : Nat} (h : live zs U m = true) (ha : a ≤ m) : many zs U a (m + 1) = many zs U a m + 1 := by
  unfold many
  rw [sel_yes (good_yes h ha)]
  simp
theorem many_no {zs : List Int} {U a : Int} {m : Nat} (h : live zs U m = false) : many zs U a (m + 1) = many zs U a m := by
  unfold many
  rw [sel_no (good_dead h)]
theorem many_max (zs : List Int) (U k : Int) (m : Nat) : many zs U (max k 0) m = many zs U k m := by
  unfold many
  rw [sel_same (fun x h1 _ => ?_)]
  unfold good
  congr 1
  by_cases h : k ≤ x
  · rw [decide_eq_true h, decide_eq_true (by omega)]
  · rw [decide_eq_false h, decide_eq_false (by omega)]
theorem many_le (zs : List Int) (U a : Int) (m : Nat) : many zs U a m ≤ m := sel_len _ _

/-- A number's unit. -/
theorem unit_of {U q u : Int} (h0 : 0 ≤ u) (h1 : u < U) : (q * U + u) % U = u ∧ (q * U + u) / U = q := ⟨(Geom.divmod h0 h1).2, (Geom.divmod h0 h1).1⟩

theorem split (U k : Int) (hU : 1 ≤ U) (hk : 0 ≤ k) : k = k / U * U + k % U ∧ 0 ≤ k % U ∧ k % U < U ∧ 0 ≤ k / U := by
  refine ⟨by have := Int.mul_ediv_add_emod k U; rw [Int.mul_comm] at this; omega, Int.emod_nonneg _ (by omega), Int.emod_lt_of_pos _ (by omega), Int.ediv_nonneg hk (by omega)⟩

theorem row_bd {U p k : Int} (hU : 1 ≤ U) (hk : 0 ≤ k) (h : k < U * p) : k / U < p := by
  have h1 := split U k hU hk
  exact Int.ediv_lt_of_lt_mul (by omega) (by rw [Int.mul_comm]; exact h)

/-- A unit is among the dead ones. -/
def dd (zs : List Int) (u : Int) : Bool := decide (u ∈ zs)

theorem live_at {zs : List Int} {U q u : Int} (h0 : 0 ≤ u) (h1 : u < U) : live zs U (q * U + u) = !dd zs u := by
  unfold live dd
  rw [(unit_of h0 h1).1]

end Go.Proofs.Ytenmdgclmjfimaa.Stripe
