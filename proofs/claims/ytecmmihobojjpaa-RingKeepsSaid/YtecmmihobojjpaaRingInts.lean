/-
  What layer 4's 'Same' of two slices of ints does where both hold one list.
-/
import Derived.Test.YtecmmihobojjpaaRingPair
namespace Go.Proofs.Ytecmmihobojjpaa.RingLaw
open Go.RowKit Ring RingPkg
set_option maxRecDepth 4000

set_option maxHeartbeats 1000000 in
theorem ints_same (A A' : Option Addr) (m c c' base base' : Nat) (zs : List Int) (w : World) (h1 : OwnI w base 3 (.slice A m c) zs) (h2 : OwnI w base' 3 (.slice A' m c') zs) (hm : m ≤ 1000000) :
    Calls Try.prog 34 #[.slice A m c, .slice A' m c'] w fun e w' => e = .returned (.bool true) ∧ Below w.heap.size w w' := by
  have H1 := Lib.hid h1
  have H2 := Lib.hid h2
  clear h1 h2
  go_enter Try.func34, Try.ntmps34
  go_wp2
  go_loopw [5] (fun i wr => ∃ k : Nat, k ≤ m ∧ i = .int .i64 k ∧ (∀ b : Nat, wr.heap[b]? = w.heap[b]?) ∧ Below w.heap.size w wr) (fun i _ => m - (intOf i).toNat)
  case atStart => exact ⟨0, by omega, rfl, fun _ => rfl, Below.refl _ _⟩
  case round =>
    obtain ⟨k, hk, rfl, hw, hb⟩ := hrel
    have HB := Lib.hid hb
    clear hb
    have HW := Lib.hid hw
    by_cases hlt : k < m
    · obtain ⟨g1, rfl, _, hc1, hm1⟩ := H1.out.first (by omega)
      obtain ⟨g2, rfl, _, hc2, hm2⟩ := H2.out.first (by omega)
      obtain ⟨z, hz⟩ : ∃ z, zs[k]? = some z := ⟨_, List.getElem?_eq_getElem (by rw [H1.out.len]; exact hlt)⟩
      have q1 : wr.cell? ⟨g1, k, none⟩ = some (.int .i64 z) := by rw [World.cell?_of_block (w := w) (hw g1)]; exact (H1.out.cell hz).1
      have q2 : wr.cell? ⟨g2, k, none⟩ = some (.int .i64 z) := by rw [World.cell?_of_block (w := w) (hw g2)]; exact (H2.out.cell hz).1
      have hc63 : c ≤ 9223372036854775807 := hm1
      have hc64 : c' ≤ 9223372036854775807 := hm2
      have hki : (k : Int) < (m : Int) := by omega
      clear hw hz hm1 hm2
      go_wp2
      go_quiet (fail)
      go_wp2
      go_roundw
      case rel => exact ⟨k + 1, by omega, by go_num, HW.out, below_draws HB.out _⟩
      case measure => simp [intOf]; omega
    · clear hw
      go_wp2
      go_ret
      exact ⟨rfl, HB.out⟩
end Go.Proofs.Ytecmmihobojjpaa.RingLaw
