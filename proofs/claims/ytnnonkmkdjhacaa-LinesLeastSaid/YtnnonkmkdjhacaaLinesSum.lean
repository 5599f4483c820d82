/-
  What package lines does: in, room, sum, Count, Capacity.
-/
import Derived.Test.YtnnonkmkdjhacaaLinesCur
namespace Go.Proofs.Ytnnonkmkdjhacaa.LinesPkg
open Go.RowKit Go.Shelf Lines
open Nand (Shape upd upd_same upd_other)
set_option maxRecDepth 4000

theorem lay_below {sd : List (Nat × Array Value × TypeId)} {W W' : World} (h : Lay sd W) (hb : Below W.heap.size W W') : Lay sd W' := fun q hq => (hb.block _ (Array.getElem?_eq_some_iff.1 (h q hq)).1).trans (h q hq)

theorem lay_set {sd : List (Nat × Array Value × TypeId)} {W : World} {b : Nat} {v u : Value} {t : TypeId} (h : Lay (sd ++ [(b, #[v], t)]) W) (hne : ∀ q ∈ sd, q.1 ≠ b) : Lay (sd ++ [(b, #[u], t)]) (W.setCell ⟨b, 0, none⟩ u) := by
  intro q hq
  rcases List.mem_append.1 hq with hq | hq
  · exact (Below.heap_setCell W _ u q.1 (hne q hq)).trans (h q (List.mem_append_left _ hq))
  · rw [List.mem_singleton.1 hq]
    exact one_setCell (h (b, #[v], t) (List.mem_append_right _ (by simp)))

theorem cells5 {w : World} {b : Nat} {x0 x1 x2 x3 x4 : Value} {t : TypeId} (h : w.heap[b]? = some (.cells #[x0, x1, x2, x3, x4] t (0, 0))) : w.cell? ⟨b, 0, none⟩ = some x0 ∧ w.cell? ⟨b, 1, none⟩ = some x1 ∧ w.cell? ⟨b, 2, none⟩ = some x2 ∧ w.cell? ⟨b, 3, none⟩ = some x3 ∧ w.cell? ⟨b, 4, none⟩ = some x4 := by
  refine ⟨?_, ?_, ?_, ?_, ?_⟩ <;> simp [World.cell?, h]

def recV (x : Ln) : Value := .agg #[.int .i64 x.st, .int .i64 x.wr, .int .i64 x.gd]

theorem in_any (x : Ln) (s : Int) (w : World) :
    Calls Try.prog 51 #[recV x, .int .i64 s] w fun e w' => e = .returned (.int .i64 (if x.st = s then 1 else 0)) ∧ Below w.heap.size w w' := by
  have HB := Lib.hid ((Below.refl w.heap.size w).alloc (Nat.le_refl _) (.cells #[.int .i64 x.st, .int .i64 x.wr, .int .i64 x.gd] 63))
  unfold recV
  by_cases hs : x.st = s
  · rw [if_pos hs]
    generalize x.st = t at *
    subst hs
    go_enter Try.func51, Try.ntmps51
    go_wp2
    go_ret
    exact ⟨rfl, HB.out⟩
  · rw [if_neg hs]
    generalize x.st = t at *
    go_enter Try.func51, Try.ntmps51
    go_wp2
    go_ret
    exact ⟨rfl, HB.out⟩

theorem room_any {G : Shape} (hG : G.Ok) (x : Ln) (h0 : 0 ≤ x.gd) (h1 : x.gd ≤ G.U) (w : World) :
    Calls Try.prog 43 #[recV x, .agg #[.int .i64 G.c, .int .i64 G.l, .int .i64 G.k, .int .i64 G.p, .int .i64 G.s]] w fun e w' => e = .returned (.int .i64 (room G x.gd)) ∧ Below w.heap.size w w' := by
  have HB := Lib.hid (((Below.refl w.heap.size w).alloc (Nat.le_refl _) (.cells #[.int .i64 x.st, .int .i64 x.wr, .int .i64 x.gd] 63)).alloc (by simp) (.cells #[.int .i64 G.c, .int .i64 G.l, .int .i64 G.k, .int .i64 G.p, .int .i64 G.s] 23))
  obtain ⟨r0, r1, r2⟩ := room_bd hG h0 h1
  unfold recV
  unfold room at *
  by_cases hs : x.gd = 0
  · rw [if_pos hs]
    clear r0 r1 r2 h0 h1
    generalize x.gd = t at *
    subst hs
    go_enter Try.func43, Try.ntmps43
    go_wp2
    go_ret
    exact ⟨rfl, HB.out⟩
  · rw [if_neg hs] at r0 r1 ⊢
    obtain ⟨r2, r3⟩ := r2 hs
    generalize x.gd = t at *
    have e1 : wrap64 (t * G.p) = t * G.p := wrap_is (by omega) (by omega)
    have E3 := Lib.hid (show wrap64 ((t * G.p - 1) * G.s) = (t * G.p - 1) * G.s from wrap_is (by omega) (by omega))
    clear r0 r1
    generalize G.p = p at *
    generalize G.s = s at *
    go_enter Try.func43, Try.ntmps43
    go_wp2
    go_ret
    exact ⟨congrArg (fun z => Ending.returned (.int .i64 z)) E3.out, HB.out⟩

attribute [local go_sem] Oper.semAt_some

set_option maxRecDepth 100000 in
set_option maxHeartbeats 2000000 in
theorem sumI_any {G : Shape} {n : Nat} {w : World} {P : Pl} {f : St} (h : Lp G n w P f) (s : Int) :
    Calls Try.prog 50 #[ptr P.g 0, .func (.func 51) #[] #[], .int .i64 s] w fun e w' => e = .returned (.int .i64 (cnt f s n)) ∧ Below w.heap.size w w' := by
  have H := Lib.hid h
  have hn1 := h.n1
  clear h
  have hmf : ∀ (fn : Fn) (first cap : Array Value) (w : World), (Instr.makeFunc fn first cap).run Try.prog w = .ok (.func fn first cap) w := fun _ _ _ _ => rfl
  refine (callsIn_wide (n := 3)).1 ?_
  refine callsIn_of_wp_marks Try.func50 rfl trivial ?_ rfl
  simp only [Try.ntmps50, List.size_toArray, List.length_cons, List.length_nil, Nat.reduceAdd, Nat.reduceSub, Array.replicate_succ, Array.replicate_zero, List.push_toArray, List.append_toArray, List.nil_append, List.cons_append]
  gi_wp2_with fail
  have hb0 : Below w.heap.size w (((w.alloc (.cells #[.func (.func 51) #[] #[]] 74)).alloc (.cells #[.int .i64 s] 3)).alloc (.cells #[.int .i64 0] 3)) := (((Below.refl w.heap.size w).alloc (Nat.le_refl _) _).alloc (by simp) _).alloc (by simp; omega) _
  have hl0 : Lay [(w.heap.size, #[.func (.func 51) #[] #[]], 74), (w.heap.size + 1, #[.int .i64 s], 3), (w.heap.size + 1 + 1, #[.int .i64 (cnt f s 0)], 3)] (((w.alloc (.cells #[.func (.func 51) #[] #[]] 74)).alloc (.cells #[.int .i64 s] 3)).alloc (.cells #[.int .i64 0] 3)) := by
    intro q hq
    simp only [List.mem_cons, List.not_mem_nil, or_false] at hq
    rcases hq with rfl | rfl | rfl
    · exact (firm_block 0 _ _ _).new _ _ ((firm_block 0 _ _ _).new _ _ (heap_alloc_new _ _))
    · refine (firm_block 0 _ _ _).new _ _ ?_
      have := heap_alloc_new (w.alloc (.cells #[.func (.func 51) #[] #[]] 74)) (.cells #[.int .i64 s] 3)
      rwa [World.size_alloc] at this
    · have := heap_alloc_new ((w.alloc (.cells #[.func (.func 51) #[] #[]] 74)).alloc (.cells #[.int .i64 s] 3)) (.cells #[.int .i64 0] 3)
      rw [World.size_alloc, World.size_alloc] at this
      exact this
  refine wpIn_range_at rfl (by omega) (gf := 41) (fst := #[ptr P.g 0]) (lb := #[]) rfl trivial (enters_of Try.func41 (by kernel_rfl) rfl) n (shown f) _
    (all_shows Fence.wide 2 trivial rfl (by omega) G n P f) (fun _ => rfl)
    (fun k W => Below w.heap.size w W ∧ Lay [(w.heap.size, #[.func (.func 51) #[] #[]], 74), (w.heap.size + 1, #[.int .i64 s], 3), (w.heap.size + 1 + 1, #[.int .i64 (cnt f s k)], 3)] W)
    (fun c k W => False)
    (fun k => (firm_below w (by simp; omega) (Nat.le_refl _)).and (firm_lay _ _))
    (fun c k => firm_pure _ _)
    (fun k W hh => H.out.below hh.1)
    ⟨hb0, hl0⟩
    (fun k a' W => ∃ b, a' = { tmps := #[ptr P.g 0, .func (.func 51) #[] #[], .int .i64 s, undef, ptr w.heap.size 0, ptr (w.heap.size + 1) 0, .int .i64 0, ptr (w.heap.size + 1 + 1) 0, undef, ptr b 0, ptr P.g 0, .func (.func 41) #[ptr P.g 0] #[], .int .i64 (k : Int), recV (f k), undef, undef, undef, undef, undef, undef, undef], defers := [] } ∧
      W.heap[b]? = some (.cells #[.int .i64 (f k).st, .int .i64 (f k).wr, .int .i64 (f k).gd] 63 (0, 0)))
    (fun k a' => firm_ex fun b => (firm_pure _ _).and (firm_block _ _ _ _)) ?assign ?body ?done ?stop
  case assign =>
    intro l k W K hi hK
    unfold shown
    gi_wp2
    exact hK _ _ ((KeepsOthers.alloc _ _).from _) ⟨hi.1.alloc hi.1.size _, (firm_lay 0 _).new _ _ hi.2⟩ ⟨_, rfl, heap_alloc_new _ _⟩
  case body =>
    rintro l k a' W hk ⟨hb, hl⟩ ⟨b, rfl, hx⟩
    have hcb : W.cell? ⟨b, 0, none⟩ = some (.int .i64 (f k).st) ∧ W.cell? ⟨b, 1, none⟩ = some (.int .i64 (f k).wr) ∧ W.cell? ⟨b, 2, none⟩ = some (.int .i64 (f k).gd) := by refine ⟨?_, ?_, ?_⟩ <;> simp [World.cell?, hx]
    obtain ⟨x0, x1, x2⟩ := hcb
    have q0 := cell_of_one (hl _ (.head _))
    have q1 := cell_of_one (hl _ (.tail _ (.head _)))
    have q2 := cell_of_one (hl _ (.tail _ (.tail _ (.head _))))
    have f2 := free_of_one (hl _ (.tail _ (.tail _ (.head _))))
    dsimp only at q0 q1 q2 f2
    have hcn := cnt_bd f s k
    have hk2 : (k : Int) < 64 := by omega
    have HI := Lib.hid (fun w => in_any (f k) s w)
    have HB := Lib.hid hb
    have HL := Lib.hid hl
    clear hb hl hx
    unfold recV at *
    have hz0 : 0 ≤ (if (f k).st = s then (1 : Int) else 0) ∧ (if (f k).st = s then (1 : Int) else 0) ≤ 1 := by split <;> omega
    have HST := Lib.hid (show cnt f s (k + 1) = cnt f s k + (if (f k).st = s then 1 else 0) from rfl)
    generalize (if (f k).st = s then (1 : Int) else 0) = z at HI hz0 HST
    generalize hcc : cnt f s k = c at *
    clear hcc
    have hmx : Try.prog.follows .mixedOrders = true := by kernel_rfl
    gi_wp2
    gi_region_with_o (refine ⟨trivial, ?_⟩; gi_at_call 51; refine (CallsIn.inRound l (callsIn_wide.2 (HI.out _))).mono ?_; rintro e w2 ⟨rfl, hb⟩; have q3 := cell_stays hb q2; have f3 : w2.frozen? ⟨w.heap.size + 1 + 1, 0, none⟩ = false := by rw [hb.frozen (p := ⟨w.heap.size + 1 + 1, 0, none⟩) (World.block_lt_of_cell? _ _ q2)]; exact f2)
    all_goals rw [show IntKind.i64.wrap (c + z) = c + z from kwrap_is (by omega) (by omega)]
    all_goals gi_wp2
    all_goals
      replace hb : Below W.heap.size W w2 := ⟨hb.os, hb.tape, hb.output, hb.size, hb.block⟩
      refine ⟨(keepsFrom_below hb).trans ((KeepsOthers.setCell _ _ _).from _), (below_then HB.out hb).setCell (p := ⟨w.heap.size + 1 + 1, 0, none⟩) (by simp; omega) _, ?_⟩
      rw [HST.out]
      exact lay_set (sd := [_, _]) (lay_below HL.out hb) (fun q hq => by simp only [List.mem_cons, List.not_mem_nil, or_false] at hq; rcases hq with rfl | rfl <;> (dsimp only; omega))
  case done =>
    rintro D W hD ⟨hb, hl⟩ hd
    have hr := cell_of_one (hl _ (.tail _ (.tail _ (.head _))))
    dsimp only at hr
    gi_wp2
    refine ⟨by simp, .inl ⟨_, _, rfl, run_takeDeferred hd, ?_⟩⟩
    exact ⟨_, results_tmp rfl _ _ _, rfl, below_shut hb (by simp at hD; omega) _⟩
  case stop =>
    rintro D c k W hD hk h hd
    exact h.elim
theorem Count_any {G : Shape} {n : Nat} {w : World} {P : Pl} {f : St} (h : Lp G n w P f) (s : Int) :
    Calls Try.prog 23 #[ptr P.g 0, .int .i64 s] w fun e w' => e = .returned (.int .i64 (cnt f s n)) ∧ Below w.heap.size w w' := by
  have HS := Lib.hid (sumI_any h s)
  generalize cnt f s n = z at *
  clear h
  go_enter Try.func23, Try.ntmps23
  go_wp2_with fail
  refine HS.out.mono ?_
  rintro e w2 ⟨rfl, hb⟩
  have HB := Lib.hid hb
  clear hb
  go_wp2
  go_ret
  exact ⟨rfl, HB.out⟩

end Go.Proofs.Ytnnonkmkdjhacaa.LinesPkg
