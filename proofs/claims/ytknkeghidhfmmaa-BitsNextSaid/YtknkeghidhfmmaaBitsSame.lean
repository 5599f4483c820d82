/-
  The document's answer of layer 4, the first part: two lists that are the same.
-/
import Derived.Test.YtknkeghidhfmmaaBitsList1
import Derived.Test.YtknkeghidhfmmaaBitsKit
namespace Go.Proofs.Ytknkeghidhfmmaa.BitsPkg
open Go.RowKit
set_option maxRecDepth 4000

theorem same_any (A A' : Option Addr) (n c c' B B' : Nat) (zs : List Int) (w : World) (hn : n ≤ 1000000000000) (hr : Nums w B A n zs) (hr' : Nums w B' A' n zs) :
    Calls Try.prog 19 #[.slice A n c, .slice A' n c'] w fun e w' => e = .returned (.bool true) ∧ Below w.heap.size w w' := by
  have HR := Lib.hid hr
  have HR' := Lib.hid hr'
  clear hr hr'
  go_enter Try.func19, Try.ntmps19
  go_wp2
  go_loopw [5] (fun i wr => ∃ k : Nat, k ≤ n ∧ i = .int .i64 k ∧ ∃ j, wr = w.drewN j) (fun i _ => n - (intOf i).toNat)
  case atStart => exact ⟨0, by omega, rfl, 0, rfl⟩
  case round =>
    obtain ⟨k, hk, rfl, j, rfl⟩ := hrel
    by_cases hlt : k < n
    · obtain ⟨b, off, z, rfl, hbB, hx, hc, hz1, hz2⟩ := HR.out.at_ hlt
      obtain ⟨b', off', z', rfl, hbB', hx', hc', hz1', hz2'⟩ := HR'.out.at_ hlt
      have hzz : z' = z := by rw [hx] at hx'; injection hx' with h; exact h.symm
      subst hzz
      clear hx hx'
      have hlt2 : (k : Int) < (n : Int) := by omega
      have hk0 : (0 : Int) ≤ (k : Int) := by omega
      go_wp2
      go_quiet (fail)
      go_wp2
      go_roundw
      case rel => exact ⟨k + 1, by omega, by go_num, _, rfl⟩
      case measure => simp [intOf]; omega
    · go_wp2
      go_ret
      exact ⟨rfl, below_draws (Below.refl _ _) _⟩

end Go.Proofs.Ytknkeghidhfmmaa.BitsPkg
