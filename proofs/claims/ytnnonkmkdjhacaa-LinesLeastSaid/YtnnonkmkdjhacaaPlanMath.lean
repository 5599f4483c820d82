/-
  What a byte of a plan says, and what stands left: plain mathematics. Nothing of the program's code is named here.
-/
import Derived.Test.YtnnonkmkdjhacaaBytes
namespace Go.Proofs.Ytnnonkmkdjhacaa.Plan

/-- What becomes of it, by a byte. -/
def out (x : Int) : Int := if x % 4 = 3 then 0 else x % 4

/-- How many sectors are written, by a byte. -/
def wrt (x s : Int) : Int := if out x = 2 ∧ 0 ≤ s ∧ s ≤ 4 then (x / 4) % (s + 1) else 0

theorem out_bd (x : Int) : 0 ≤ out x ∧ out x ≤ 2 := by
  unfold out
  split <;> omega

theorem wrt_bd (x s : Int) : 0 ≤ wrt x s ∧ wrt x s ≤ 4 ∧ (0 < wrt x s → out x = 2) := by
  unfold wrt
  split
  · rename_i h2
    have h3 := Int.emod_nonneg (x / 4) (show s + 1 ≠ 0 by omega)
    have h4 := Int.emod_lt_of_pos (x / 4) (show 0 < s + 1 by omega)
    exact ⟨h3, by omega, fun _ => h2.1⟩
  · exact ⟨by omega, by omega, fun h => by omega⟩

/-- What becomes of the next one, by the bytes that are left. -/
def says : List UInt8 → Int
  | [] => 0
  | x :: _ => out (x.toNat : Int)

def many : List UInt8 → Int → Int
  | [], _ => 0
  | x :: _, s => wrt (x.toNat : Int) s

theorem says_bd (xs : List UInt8) : 0 ≤ says xs ∧ says xs ≤ 2 := by
  cases xs with
  | nil => simp [says]
  | cons x r => exact out_bd _

theorem many_bd (xs : List UInt8) (s : Int) : 0 ≤ many xs s ∧ many xs s ≤ 4 ∧ (0 < many xs s → says xs = 2) := by
  cases xs with
  | nil => simp [many]
  | cons x r => exact wrt_bd _ _

end Go.Proofs.Ytnnonkmkdjhacaa.Plan
