/-
  What package lines does: Current.
-/
import Derived.Test.YtnnonkmkdjhacaaLinesAll
namespace Go.Proofs.Ytnnonkmkdjhacaa.LinesPkg
open Go.RowKit Go.Shelf Lines
open Nand (Shape upd upd_same upd_other)
set_option maxRecDepth 4000
attribute [local go_sem] Oper.semAt_some

theorem cur_go {f : St} {k : Nat} (h : cur f k = -1) (hs : (f k).st ≠ 1) : cur f (k + 1) = -1 := by unfold cur; rw [if_pos h, if_neg hs]
theorem cur_hit {f : St} {k : Nat} (h : cur f k = -1) (hs : (f k).st = 1) : cur f (k + 1) = k := by unfold cur; rw [if_pos h, if_pos hs]
theorem cur_on {f : St} {k n : Nat} (h : cur f k ≠ -1) (hn : k ≤ n) : cur f n = cur f k := by
  induction n with
  | zero => rw [show k = 0 by omega]
  | succ n ih =>
    by_cases e : k = n + 1
    · rw [e]
    · have h2 := ih (by omega)
      rw [show cur f (n + 1) = if cur f n = -1 then (if (f n).st = 1 then (n : Int) else -1) else cur f n from rfl, if_neg (by rw [h2]; exact h), h2]

set_option maxRecDepth 100000 in
set_option maxHeartbeats 2000000 in
theorem Current_any {G : Shape} {n : Nat} {w : World} {P : Pl} {f : St} (h : Lp G n w P f) :
    Calls Try.prog 14 #[ptr P.g 0] w fun e w' => e = .returned (.int .i64 (cur f n)) ∧ Below w.heap.size w w' := by
  have H := Lib.hid h
  clear h
  have hmf : ∀ (fn : Fn) (first cap : Array Value) (w : World), (Instr.makeFunc fn first cap).run Try.prog w = .ok (.func fn first cap) w := fun _ _ _ _ => rfl
  refine (callsIn_wide (n := 3)).1 ?_
  refine callsIn_of_wp_marks Try.func14 rfl trivial ?_ rfl
  simp only [Try.ntmps14, List.size_toArray, List.length_cons, List.length_nil, Nat.reduceAdd, Nat.reduceSub, Array.replicate_succ, Array.replicate_zero, List.push_toArray, List.append_toArray, List.nil_append, List.cons_append]
  gi_wp2_with fail
  have hb0 : Below w.heap.size w (w.alloc (.cells #[.int .i64 0] 3)) := (Below.refl _ _).alloc (Nat.le_refl _) _
  refine wpIn_range_at rfl (by omega) (gf := 41) (fst := #[ptr P.g 0]) (lb := #[]) rfl trivial (enters_of Try.func41 (by kernel_rfl) rfl) n (shown f) _
    (all_shows Fence.wide 2 trivial rfl (by omega) G n P f) (fun _ => rfl)
    (fun k W => cur f k = -1 ∧ Below w.heap.size w W ∧ W.heap[w.heap.size]? = some (.cells #[.int .i64 0] 3 (0, 0)))
    (fun c k W => (c = .ret ∧ cur f (k + 1) = k) ∧ Below w.heap.size w W ∧ W.heap[w.heap.size]? = some (.cells #[.int .i64 (k : Int)] 3 (0, 0)))
    (fun k => (firm_pure _ _).and ((firm_below w (by simp) (Nat.le_refl _)).and (firm_block _ _ _ _)))
    (fun c k => (firm_pure _ _).and ((firm_below w (by simp) (Nat.le_refl _)).and (firm_block _ _ _ _)))
    (fun k W hh => H.out.below hh.2.1)
    ⟨rfl, hb0, heap_alloc_new _ _⟩
    (fun k a' W => ∃ b, a' = { tmps := #[ptr P.g 0, undef, ptr w.heap.size 0, .int .i64 (k : Int), ptr b 0, ptr P.g 0, .func (.func 41) #[ptr P.g 0] #[], .int .i64 (k : Int), .agg #[.int .i64 (f k).st, .int .i64 (f k).wr, .int .i64 (f k).gd], undef, undef, undef, undef], defers := [] } ∧
      W.heap[b]? = some (.cells #[.int .i64 (f k).st, .int .i64 (f k).wr, .int .i64 (f k).gd] 63 (0, 0)))
    (fun k a' => firm_ex fun b => (firm_pure _ _).and (firm_block _ _ _ _)) ?assign ?body ?done ?stop
  case assign =>
    intro l k W K hi hK
    unfold shown
    gi_wp2
    exact hK _ _ ((KeepsOthers.alloc _ _).from _) ⟨hi.1, hi.2.1.alloc hi.2.1.size _, (firm_block 0 _ _ _).new _ _ hi.2.2⟩ ⟨_, rfl, heap_alloc_new _ _⟩
  case body =>
    rintro l k a' W hk ⟨hc, hb, hl⟩ ⟨b, rfl, hx⟩
    have hcb : W.cell? ⟨b, 0, none⟩ = some (.int .i64 (f k).st) := by simp [World.cell?, hx]
    have hr := cell_of_one hl
    have hrf := free_of_one hl
    have HC := Lib.hid hc
    have HB := Lib.hid hb
    have HL := Lib.hid hl
    clear hx hc hb hl
    by_cases hs : (f k).st = 1
    · have HS := Lib.hid hs
      rw [hs] at hcb
      gi_wp2
      exact ⟨(KeepsOthers.setCell _ _ _).from _, ⟨rfl, cur_hit HC.out HS.out⟩, HB.out.setCell (p := ⟨w.heap.size, 0, none⟩) (Nat.le_refl _) _, one_setCell HL.out⟩
    · gi_wp2
      exact ⟨KeepsFrom.refl _ _, cur_go HC.out hs, HB.out, HL.out⟩
  case done =>
    rintro D W hD ⟨hc, hb, hl⟩ hd
    have hr := cell_of_one hl
    have hrf := free_of_one hl
    gi_wp2
    have hd2 := (KeepsOthers.setCell W ⟨w.heap.size, 0, none⟩ (.int .i64 (-1))).same D _ hd rfl
    have hl2 := (firm_block 0 _ _ _).put _ _ _ (.deferred none) (one_setCell (u := .int .i64 (-1)) hl) (Nat.zero_le _) hd2 rfl
    have hc2 := cell_of_one hl2
    refine ⟨by simp, .inl ⟨_, _, rfl, run_takeDeferred hd2, ?_⟩⟩
    refine ⟨.int .i64 (-1), ?_, by rw [hc], below_shut (hb.setCell (p := ⟨w.heap.size, 0, none⟩) (Nat.le_refl _) _) (by simp at hD; omega) _⟩
    simp [results, Try.f14, go_sem, hc2]
  case stop =>
    rintro D c k W hD hk ⟨⟨rfl, hc⟩, hb, hl⟩ hd
    gi_wp2
    have hl2 := (firm_block 0 _ _ _).put _ _ _ (.deferred none) hl (Nat.zero_le _) hd rfl
    have hc2 := cell_of_one hl2
    refine ⟨by simp, .inl ⟨_, _, rfl, run_takeDeferred hd, ?_⟩⟩
    refine ⟨.int .i64 (k : Int), ?_, by rw [cur_on (n := n) (by rw [hc]; omega) (by omega), hc], below_shut hb (by simp at hD; omega) _⟩
    simp [results, Try.f14, go_sem, hc2]
end Go.Proofs.Ytnnonkmkdjhacaa.LinesPkg
