/-
  What package lines does: leastWorn.
-/
import Derived.Test.YtnnonkmkdjhacaaLinesCur
namespace Go.Proofs.Ytnnonkmkdjhacaa.LinesPkg
open Go.RowKit Go.Shelf Lines
open Nand (Shape upd upd_same upd_other)
set_option maxRecDepth 4000
attribute [local go_sem] Oper.semAt_some

theorem lay_two {W : World} {a b : Nat} {u v u' v' : Value} {t t' : TypeId} (h : Lay [(a, #[u], t), (b, #[v], t')] W) (hne : a ≠ b) : Lay [(a, #[u'], t), (b, #[v'], t')] ((W.setCell ⟨a, 0, none⟩ u').setCell ⟨b, 0, none⟩ v').drew := by
  intro q hq
  simp only [List.mem_cons, List.not_mem_nil, or_false] at hq
  rcases hq with rfl | rfl
  · exact (Below.heap_setCell _ ⟨b, 0, none⟩ v' a hne).trans (one_setCell (h _ (.head _)))
  · exact one_setCell ((Below.heap_setCell W ⟨a, 0, none⟩ u' b (fun e => hne e.symm)).trans (h _ (.tail _ (.head _))))

theorem best_take {f : St} {k : Nat} (h : (f k).st = 0) (h2 : best f k = -1 ∨ (f k).wr < least f k) : best f (k + 1) = k ∧ least f (k + 1) = (f k).wr := by
  have hh : best f k = -1 ∨ (f k).wr < (f (best f k).toNat).wr := by
    rcases h2 with h2 | h2
    · exact .inl h2
    · by_cases hb : best f k = -1
      · exact .inl hb
      · unfold least at h2
        rw [if_neg hb] at h2
        exact .inr h2
  have e : best f (k + 1) = k := by
    show (if (f k).st = 0 ∧ (best f k = -1 ∨ (f k).wr < (f (best f k).toNat).wr) then (k : Int) else best f k) = k
    exact if_pos ⟨h, hh⟩
  refine ⟨e, ?_⟩
  unfold least
  rw [e, if_neg (by omega), Int.toNat_natCast]

theorem best_pass {f : St} {k : Nat} (h : ¬ ((f k).st = 0 ∧ (best f k = -1 ∨ (f k).wr < least f k))) : best f (k + 1) = best f k ∧ least f (k + 1) = least f k := by
  have e : best f (k + 1) = best f k := by
    show (if (f k).st = 0 ∧ (best f k = -1 ∨ (f k).wr < (f (best f k).toNat).wr) then (k : Int) else best f k) = best f k
    rw [if_neg]
    rintro ⟨h1, h2⟩
    refine h ⟨h1, ?_⟩
    by_cases hb : best f k = -1
    · exact .inl hb
    · unfold least
      rw [if_neg hb]
      exact .inr (h2.resolve_left hb)
  exact ⟨e, by unfold least; rw [e]⟩

set_option maxRecDepth 100000 in
set_option maxHeartbeats 2000000 in
theorem leastWorn_any {G : Shape} {n : Nat} {w : World} {P : Pl} {f : St} (h : Lp G n w P f) :
    Calls Try.prog 44 #[ptr P.g 0] w fun e w' => e = .returned (.int .i64 (best f n)) ∧ Below w.heap.size w w' := by
  have H := Lib.hid h
  have hn1 := h.n1
  clear h
  have hmf : ∀ (fn : Fn) (first cap : Array Value) (w : World), (Instr.makeFunc fn first cap).run Try.prog w = .ok (.func fn first cap) w := fun _ _ _ _ => rfl
  refine (callsIn_wide (n := 3)).1 ?_
  refine callsIn_of_wp_marks Try.func44 rfl trivial ?_ rfl
  simp only [Try.ntmps44, List.size_toArray, List.length_cons, List.length_nil, Nat.reduceAdd, Nat.reduceSub, Array.replicate_succ, Array.replicate_zero, List.push_toArray, List.append_toArray, List.nil_append, List.cons_append]
  gi_wp2_with fail
  have hb0 : Below w.heap.size w ((w.alloc (.cells #[.int .i64 (-1)] 3)).alloc (.cells #[.int .i64 0] 3)) := ((Below.refl w.heap.size w).alloc (Nat.le_refl _) _).alloc (by simp) _
  have hl0 : Lay [(w.heap.size, #[.int .i64 (best f 0)], 3), (w.heap.size + 1, #[.int .i64 (least f 0)], 3)] ((w.alloc (.cells #[.int .i64 (-1)] 3)).alloc (.cells #[.int .i64 0] 3)) := by
    intro q hq
    simp only [List.mem_cons, List.not_mem_nil, or_false] at hq
    rcases hq with rfl | rfl
    · exact (firm_block 0 _ _ _).new _ _ (heap_alloc_new _ _)
    · have := heap_alloc_new (w.alloc (.cells #[.int .i64 (-1)] 3)) (.cells #[.int .i64 0] 3)
      rwa [World.size_alloc] at this
  refine wpIn_range_at rfl (by omega) (gf := 41) (fst := #[ptr P.g 0]) (lb := #[]) rfl trivial (enters_of Try.func41 (by kernel_rfl) rfl) n (shown f) _
    (all_shows Fence.wide 2 trivial rfl (by omega) G n P f) (fun _ => rfl)
    (fun k W => Below w.heap.size w W ∧ Lay [(w.heap.size, #[.int .i64 (best f k)], 3), (w.heap.size + 1, #[.int .i64 (least f k)], 3)] W)
    (fun _ _ _ => False)
    (fun k => (firm_below w (by simp; omega) (Nat.le_refl _)).and (firm_lay _ _))
    (fun c k => firm_pure _ _)
    (fun k W hh => H.out.below hh.1)
    ⟨hb0, hl0⟩
    (fun k a' W => ∃ b, a' = { tmps := #[ptr P.g 0, undef, .int .i64 0, ptr w.heap.size 0, ptr (w.heap.size + 1) 0, .int .i64 (k : Int), ptr b 0, ptr P.g 0, .func (.func 41) #[ptr P.g 0] #[], .int .i64 (k : Int), .agg #[.int .i64 (f k).st, .int .i64 (f k).wr, .int .i64 (f k).gd], undef, undef, undef, undef, undef, undef, undef, undef, undef, undef, undef, undef, undef, undef, undef, undef, undef], defers := [] } ∧
      W.heap[b]? = some (.cells #[.int .i64 (f k).st, .int .i64 (f k).wr, .int .i64 (f k).gd] 63 (0, 0)))
    (fun k a' => firm_ex fun b => (firm_pure _ _).and (firm_block _ _ _ _)) ?assign ?body ?done ?stop
  case assign =>
    intro l k W K hi hK
    unfold shown
    gi_wp2
    exact hK _ _ ((KeepsOthers.alloc _ _).from _) ⟨hi.1.alloc hi.1.size _, (firm_lay 0 _).new _ _ hi.2⟩ ⟨_, rfl, heap_alloc_new _ _⟩
  case body =>
    rintro l k a' W hk ⟨hb, hl⟩ ⟨b, rfl, hx⟩
    have hcb : W.cell? ⟨b, 0, none⟩ = some (.int .i64 (f k).st) ∧ W.cell? ⟨b, 1, none⟩ = some (.int .i64 (f k).wr) ∧ W.cell? ⟨b, 2, none⟩ = some (.int .i64 (f k).gd) := by refine ⟨?_, ?_, ?_⟩ <;> simp [World.cell?, hx]
    obtain ⟨x0, x1, x2⟩ := hcb
    have q0 := cell_of_one (hl _ (.head _))
    have q1 := cell_of_one (hl _ (.tail _ (.head _)))
    have f0 := free_of_one (hl _ (.head _))
    have f1 := free_of_one (hl _ (.tail _ (.head _)))
    dsimp only at q0 q1 f0 f1
    have hne : (⟨w.heap.size, 0, none⟩ : Addr) ≠ ⟨b, 1, none⟩ := fun e => by injection e with _ e; omega
    have HB := Lib.hid hb
    have HL := Lib.hid hl
    clear hb hl hx
    by_cases ht : (f k).st = 0 ∧ (best f k = -1 ∨ (f k).wr < least f k)
    · have HT := Lib.hid (best_take ht.1 ht.2)
      obtain ⟨hx0, hx1⟩ := ht
      generalize (f k).st = s0 at *
      generalize (f k).wr = s1 at *
      generalize (f k).gd = s2 at *
      generalize hbb : best f k = B at *
      generalize hll : least f k = LL at *
      clear hbb hll
      subst hx0
      have hfin : ∀ X, KeepsFrom ((w.alloc (.cells #[.int .i64 (-1)] 3)).alloc (.cells #[.int .i64 0] 3)).heap.size W X ∧ Below w.heap.size w X ∧ Lay [(w.heap.size, #[.int .i64 (k : Int)], 3), (w.heap.size + 1, #[.int .i64 s1], 3)] X → KeepsFrom ((w.alloc (.cells #[.int .i64 (-1)] 3)).alloc (.cells #[.int .i64 0] 3)).heap.size W X ∧ Below w.heap.size w X ∧ Lay [(w.heap.size, #[.int .i64 (best f (k + 1))], 3), (w.heap.size + 1, #[.int .i64 (least f (k + 1))], 3)] X := fun X h => by rw [HT.out.1, HT.out.2]; exact h
      have HF := Lib.hid hfin
      clear hfin
      have hmx : Try.prog.follows .mixedOrders = true := by kernel_rfl
      by_cases hB : B = -1
      · clear hx1
        subst hB
        gi_wp2
        gi_region_o
        all_goals gi_wp2
        all_goals exact HF.out _ ⟨(((KeepsOthers.setCell _ _ _).trans (KeepsOthers.setCell _ _ _)).trans (KeepsOthers.drew _)).from _, ((HB.out.setCell (p := ⟨w.heap.size, 0, none⟩) (Nat.le_refl _) _).setCell (p := ⟨w.heap.size + 1, 0, none⟩) (by simp) _).drew, lay_two HL.out (by simp)⟩
      · have hlt : s1 < LL := hx1.resolve_left hB
        clear hx1
        gi_wp2
        gi_region_o
        all_goals gi_wp2
        all_goals exact HF.out _ ⟨(((KeepsOthers.setCell _ _ _).trans (KeepsOthers.setCell _ _ _)).trans (KeepsOthers.drew _)).from _, ((HB.out.setCell (p := ⟨w.heap.size, 0, none⟩) (Nat.le_refl _) _).setCell (p := ⟨w.heap.size + 1, 0, none⟩) (by simp) _).drew, lay_two HL.out (by simp)⟩
    · have HT := Lib.hid (best_pass ht)
      by_cases hs : (f k).st = 0
      · have hz : best f k ≠ -1 ∧ ¬ (f k).wr < least f k := by
          constructor
          · intro e; exact ht ⟨hs, .inl e⟩
          · intro e; exact ht ⟨hs, .inr e⟩
        obtain ⟨hz1, hz2⟩ := hz
        clear ht
        generalize (f k).st = s0 at *
        generalize (f k).wr = s1 at *
        generalize (f k).gd = s2 at *
        generalize hbb : best f k = B at *
        generalize hll : least f k = LL at *
        clear hbb hll
        subst hs
        gi_wp2
        exact ⟨KeepsFrom.refl _ _, HB.out, by rw [HT.out.1, HT.out.2]; exact HL.out⟩
      · clear ht
        generalize (f k).st = s0 at *
        generalize (f k).wr = s1 at *
        generalize (f k).gd = s2 at *
        generalize hbb : best f k = B at *
        generalize hll : least f k = LL at *
        clear hbb hll
        gi_wp2
        exact ⟨KeepsFrom.refl _ _, HB.out, by rw [HT.out.1, HT.out.2]; exact HL.out⟩
  case done =>
    rintro D W hD ⟨hb, hl⟩ hd
    have hr := cell_of_one (hl _ (.head _))
    dsimp only at hr
    gi_wp2
    refine ⟨by simp, .inl ⟨_, _, rfl, run_takeDeferred hd, ?_⟩⟩
    exact ⟨_, results_tmp rfl _ _ _, rfl, below_shut hb (by simp at hD; omega) _⟩
  case stop =>
    rintro D c k W hD hk h hd
    exact h.elim
end Go.Proofs.Ytnnonkmkdjhacaa.LinesPkg
