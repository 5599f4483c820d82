/-
  What package lines does: sum of the rooms, Capacity.
-/
import Derived.Test.YtnnonkmkdjhacaaLinesSum
namespace Go.Proofs.Ytnnonkmkdjhacaa.LinesPkg
open Go.RowKit Go.Shelf Lines
open Nand (Shape upd upd_same upd_other)
set_option maxRecDepth 4000
attribute [local go_sem] Oper.semAt_some

set_option maxRecDepth 100000 in
set_option maxHeartbeats 2000000 in
theorem sumG_any {G : Shape} {n : Nat} {w : World} {P : Pl} {f : St} (h : Lp G n w P f) :
    Calls Try.prog 49 #[ptr P.g 0, .func (.func 43) #[] #[], .agg #[.int .i64 G.c, .int .i64 G.l, .int .i64 G.k, .int .i64 G.p, .int .i64 G.s]] w fun e w' => e = .returned (.int .i64 (cap G f n)) ∧ Below w.heap.size w w' := by
  have H := Lib.hid h
  have hn1 := h.n1
  clear h
  have hmf : ∀ (fn : Fn) (first cap : Array Value) (w : World), (Instr.makeFunc fn first cap).run Try.prog w = .ok (.func fn first cap) w := fun _ _ _ _ => rfl
  refine (callsIn_wide (n := 3)).1 ?_
  refine callsIn_of_wp_marks Try.func49 rfl trivial ?_ rfl
  simp only [Try.ntmps49, List.size_toArray, List.length_cons, List.length_nil, Nat.reduceAdd, Nat.reduceSub, Array.replicate_succ, Array.replicate_zero, List.push_toArray, List.append_toArray, List.nil_append, List.cons_append]
  gi_wp2_with fail
  have hb0 : Below w.heap.size w (((w.alloc (.cells #[.func (.func 43) #[] #[]] 72)).alloc (.cells #[.int .i64 G.c, .int .i64 G.l, .int .i64 G.k, .int .i64 G.p, .int .i64 G.s] 23)).alloc (.cells #[.int .i64 0] 3)) := (((Below.refl w.heap.size w).alloc (Nat.le_refl _) _).alloc (by simp) _).alloc (by simp; omega) _
  have hl0 : Lay [(w.heap.size, #[.func (.func 43) #[] #[]], 72), (w.heap.size + 1, #[.int .i64 G.c, .int .i64 G.l, .int .i64 G.k, .int .i64 G.p, .int .i64 G.s], 23), (w.heap.size + 1 + 1, #[.int .i64 (cap G f 0)], 3)] (((w.alloc (.cells #[.func (.func 43) #[] #[]] 72)).alloc (.cells #[.int .i64 G.c, .int .i64 G.l, .int .i64 G.k, .int .i64 G.p, .int .i64 G.s] 23)).alloc (.cells #[.int .i64 0] 3)) := by
    intro q hq
    simp only [List.mem_cons, List.not_mem_nil, or_false] at hq
    rcases hq with rfl | rfl | rfl
    · exact (firm_block 0 _ _ _).new _ _ ((firm_block 0 _ _ _).new _ _ (heap_alloc_new _ _))
    · refine (firm_block 0 _ _ _).new _ _ ?_
      have := heap_alloc_new (w.alloc (.cells #[.func (.func 43) #[] #[]] 72)) (.cells #[.int .i64 G.c, .int .i64 G.l, .int .i64 G.k, .int .i64 G.p, .int .i64 G.s] 23)
      rwa [World.size_alloc] at this
    · have := heap_alloc_new ((w.alloc (.cells #[.func (.func 43) #[] #[]] 72)).alloc (.cells #[.int .i64 G.c, .int .i64 G.l, .int .i64 G.k, .int .i64 G.p, .int .i64 G.s] 23)) (.cells #[.int .i64 0] 3)
      rw [World.size_alloc, World.size_alloc] at this
      exact this
  refine wpIn_range_at rfl (by omega) (gf := 41) (fst := #[ptr P.g 0]) (lb := #[]) rfl trivial (enters_of Try.func41 (by kernel_rfl) rfl) n (shown f) _
    (all_shows Fence.wide 2 trivial rfl (by omega) G n P f) (fun _ => rfl)
    (fun k W => Below w.heap.size w W ∧ Lay [(w.heap.size, #[.func (.func 43) #[] #[]], 72), (w.heap.size + 1, #[.int .i64 G.c, .int .i64 G.l, .int .i64 G.k, .int .i64 G.p, .int .i64 G.s], 23), (w.heap.size + 1 + 1, #[.int .i64 (cap G f k)], 3)] W)
    (fun c k W => False)
    (fun k => (firm_below w (by simp; omega) (Nat.le_refl _)).and (firm_lay _ _))
    (fun c k => firm_pure _ _)
    (fun k W hh => H.out.below hh.1)
    ⟨hb0, hl0⟩
    (fun k a' W => ∃ b, a' = { tmps := #[ptr P.g 0, .func (.func 43) #[] #[], .agg #[.int .i64 G.c, .int .i64 G.l, .int .i64 G.k, .int .i64 G.p, .int .i64 G.s], undef, ptr w.heap.size 0, ptr (w.heap.size + 1) 0, .int .i64 0, ptr (w.heap.size + 1 + 1) 0, undef, ptr b 0, ptr P.g 0, .func (.func 41) #[ptr P.g 0] #[], .int .i64 (k : Int), recV (f k), undef, undef, undef, undef, undef, undef, undef], defers := [] } ∧
      W.heap[b]? = some (.cells #[.int .i64 (f k).st, .int .i64 (f k).wr, .int .i64 (f k).gd] 63 (0, 0)))
    (fun k a' => firm_ex fun b => (firm_pure _ _).and (firm_block _ _ _ _)) ?assign ?body ?done ?stop
  case assign =>
    intro l k W K hi hK
    unfold shown
    gi_wp2
    exact hK _ _ ((KeepsOthers.alloc _ _).from _) ⟨hi.1.alloc hi.1.size _, (firm_lay 0 _).new _ _ hi.2⟩ ⟨_, rfl, heap_alloc_new _ _⟩
  case body =>
    rintro l k a' W hk ⟨hb, hl⟩ ⟨b, rfl, hx⟩
    have hcb : W.cell? ⟨b, 0, none⟩ = some (.int .i64 (f k).st) ∧ W.cell? ⟨b, 1, none⟩ = some (.int .i64 (f k).wr) ∧ W.cell? ⟨b, 2, none⟩ = some (.int .i64 (f k).gd) := by refine ⟨?_, ?_, ?_⟩ <;> simp [World.cell?, hx]
    obtain ⟨x0, x1, x2⟩ := hcb
    have q0 := cell_of_one (hl _ (.head _))
    obtain ⟨q10, q11, q12, q13, q14⟩ := cells5 (hl _ (.tail _ (.head _)))
    have q2 := cell_of_one (hl _ (.tail _ (.tail _ (.head _))))
    have f2 := free_of_one (hl _ (.tail _ (.tail _ (.head _))))
    dsimp only at q0 q10 q11 q12 q13 q14 q2 f2
    have hcn := cap_bd H.out.ok H.out.inv.gd k (by omega)
    have hg := H.out.inv.gd k hk
    have hr := room_bd H.out.ok hg.1 hg.2
    have hk2 : (k : Int) < 64 := by omega
    have HI := Lib.hid (fun w => room_any H.out.ok (f k) hg.1 hg.2 w)
    have HB := Lib.hid hb
    have HL := Lib.hid hl
    clear hb hl hx
    unfold recV at *
    have hz0 : 0 ≤ room G (f k).gd ∧ room G (f k).gd ≤ 1024 := ⟨hr.1, hr.2.1⟩
    clear hg hr
    have HST := Lib.hid (show cap G f (k + 1) = cap G f k + room G (f k).gd from rfl)
    generalize room G (f k).gd = z at HI hz0 HST
    generalize hcc : cap G f k = c at *
    clear hcc
    have hmx : Try.prog.follows .mixedOrders = true := by kernel_rfl
    gi_wp2
    gi_region_with_o (refine ⟨trivial, ?_⟩; gi_at_call 43; refine (CallsIn.inRound l (callsIn_wide.2 (HI.out _))).mono ?_; rintro e w2 ⟨rfl, hb⟩; have q3 := cell_stays hb q2; have f3 : w2.frozen? ⟨w.heap.size + 1 + 1, 0, none⟩ = false := by rw [hb.frozen (p := ⟨w.heap.size + 1 + 1, 0, none⟩) (World.block_lt_of_cell? _ _ q2)]; exact f2)
    all_goals rw [show IntKind.i64.wrap (c + z) = c + z from kwrap_is (by omega) (by omega)]
    all_goals gi_wp2
    all_goals
      replace hb : Below W.heap.size W w2 := ⟨hb.os, hb.tape, hb.output, hb.size, hb.block⟩
      refine ⟨(keepsFrom_below hb).trans ((KeepsOthers.setCell _ _ _).from _), (below_then HB.out hb).setCell (p := ⟨w.heap.size + 1 + 1, 0, none⟩) (by simp; omega) _, ?_⟩
      rw [HST.out]
      exact lay_set (sd := [_, _]) (lay_below HL.out hb) (fun q hq => by simp only [List.mem_cons, List.not_mem_nil, or_false] at hq; rcases hq with rfl | rfl <;> (dsimp only; omega))
  case done =>
    rintro D W hD ⟨hb, hl⟩ hd
    have hr := cell_of_one (hl _ (.tail _ (.tail _ (.head _))))
    dsimp only at hr
    gi_wp2
    refine ⟨by simp, .inl ⟨_, _, rfl, run_takeDeferred hd, ?_⟩⟩
    exact ⟨_, results_tmp rfl _ _ _, rfl, below_shut hb (by simp at hD; omega) _⟩
  case stop =>
    rintro D c k W hD hk h hd
    exact h.elim

theorem Capacity_any {G : Shape} {n : Nat} {w : World} {P : Pl} {f : St} (h : Lp G n w P f) :
    Calls Try.prog 20 #[ptr P.g 0] w fun e w' => e = .returned (.int .i64 (cap G f n)) ∧ Below w.heap.size w w' := by
  have HS := Lib.hid (sumG_any h)
  obtain ⟨k0, k1, k2, k3, k4, _⟩ := h.cells
  generalize cap G f n = z at *
  clear h
  go_enter Try.func20, Try.ntmps20
  go_wp2_with fail
  refine HS.out.mono ?_
  rintro e w2 ⟨rfl, hb⟩
  have HB := Lib.hid hb
  clear hb
  go_wp2
  go_ret
  exact ⟨rfl, HB.out⟩

end Go.Proofs.Ytnnonkmkdjhacaa.LinesPkg
