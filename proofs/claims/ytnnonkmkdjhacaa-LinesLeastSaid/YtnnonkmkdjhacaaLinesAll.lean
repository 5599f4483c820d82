/-
  What package lines shows a range over a function: each line, in order, till it is told to stop.
-/
import Derived.Test.YtnnonkmkdjhacaaLinesWalks
import Derived.Test.YtnnonkmkdjhacaaRange
import Derived.Shelf.Abstract
import Derived.Shelf.RegionOpen
import Derived.OwnWalkIn
import Derived.TacticsInMore
import Derived.LoopNIn
import Derived.LoopIn
namespace Go.Proofs.Ytnnonkmkdjhacaa.LinesPkg
open Go.RowKit Go.Shelf Lines
open Nand (Shape upd upd_same upd_other)
set_option maxRecDepth 4000
attribute [local go_sem] Oper.semAt_some

/-- What is shown of line k. -/
def shown (f : St) (k : Nat) : Array Value := #[.int .i64 (k : Int), .agg #[.int .i64 (f k).st, .int .i64 (f k).wr, .int .i64 (f k).gd]]

set_option maxRecDepth 100000 in
set_option maxHeartbeats 2000000 in
theorem all_shows (F : Fence) (m : Nat) (hF : F.fn 41) (hro : F.round = none) (hm : 1 ≤ m) (G : Shape) (n : Nat) (P : Pl) (f : St) :
    Shows F m Try.prog 41 #[ptr P.g 0] #[] n (shown f) (fun W => Lp G n W P f) := by
  intro l J Jx W hJn hJr hY h0
  have hn1 := (hJr 0 W h0).n1
  have HJN := Lib.hid hJn
  have HJR := Lib.hid hJr
  have HYY := Lib.hid hY
  have H0 := Lib.hid h0
  obtain ⟨_, _, _, _, _, c5⟩ := (hJr 0 W h0).cells
  clear hJn hJr hY h0
  refine callsIn_of_wp Try.func41 rfl hF ?_ hro
  simp only [Try.ntmps41, List.size_toArray, List.length_cons, List.length_nil, Nat.reduceAdd, Nat.reduceSub, Array.replicate_succ, Array.replicate_zero, List.push_toArray, List.append_toArray, List.nil_append, List.cons_append]
  gi_wp2
  gi_loopw [4, 5, 11] (fun _ _ i wr => ∃ k : Nat, k ≤ n ∧ i = .int .i64 (k : Int) ∧ J k wr) (fun _ _ i _ => n - (intOf i).toNat)
  case atStart => exact ⟨0, Nat.zero_le _, rfl, H0.out⟩
  case round =>
    obtain ⟨k, hk, rfl, hj⟩ := hrel
    by_cases hlt : k < n
    · obtain ⟨c0, c1, c2, _, _, _⟩ := (HJR.out k wr hj).at hlt
      obtain ⟨fn, tmps, assign, body, hy, hR⟩ := HYY.out k _ hlt (HJN.out k wr (.cells #[.int .i64 (f k).st, .int .i64 (f k).wr, .int .i64 (f k).gd] 63) hj)
      have HR := Lib.hid hR
      unfold shown at hy
      clear hR hj
      generalize (f k).st = x0 at *
      generalize (f k).wr = x1 at *
      generalize (f k).gd = x2 at *
      gi_wp2
      refine HR.out.mono ?_
      rintro e W3 (⟨rfl, hJ3⟩ | ⟨rfl, hJx3⟩)
      · gi_wp2
        go_roundw
        case rel => exact ⟨k + 1, by omega, by go_num, hJ3⟩
        case measure => simp [intOf]; omega
      · gi_wp2
        refine bodyPost_ret (results_none rfl _ _ _) rfl ?_
        exact ⟨⟨_, rfl⟩, .inr ⟨k, hlt, hJx3⟩⟩
    · obtain rfl : k = n := by omega
      gi_wp2
      go_end0
      exact ⟨⟨_, rfl⟩, .inl hj⟩
end Go.Proofs.Ytnnonkmkdjhacaa.LinesPkg
