/-
  A range over a function value that may carry a receiver: one law, said of the number of the round. What the caller owes: what holds between two rounds, and one walk of its body. Nothing of the program's code is named here.
-/
import Derived.RangeFuncCalls
import Derived.RangeFuncWrites
import Derived.RangeFuncLeaves
import Derived.Lib.Hide
namespace Go.Proofs.Ytnnonkmkdjhacaa
open Go.RowKit
set_option maxRecDepth 4000

/-- It minds neither a new block nor a turn of one that is no cells, from B on. -/
structure Firm (B : Nat) (I : World → Prop) : Prop where
  new : ∀ W o, I W → I (W.alloc o)
  put : ∀ W l o o', I W → B ≤ l → W.heap[l]? = some o → o.isCells = false → I (W.putObj l o')

/-- These blocks lie there, of cells. -/
def Lay (sd : List (Nat × Array Value × TypeId)) (W : World) : Prop := ∀ q ∈ sd, W.heap[q.1]? = some (.cells q.2.1 q.2.2 (0, 0))

theorem Firm.and {B : Nat} {I J : World → Prop} (h : Firm B I) (k : Firm B J) : Firm B (fun W => I W ∧ J W) :=
  ⟨fun W o hh => ⟨h.new W o hh.1, k.new W o hh.2⟩, fun W l o o' hh hB hl ho => ⟨h.put W l o o' hh.1 hB hl ho, k.put W l o o' hh.2 hB hl ho⟩⟩

theorem firm_pure (B : Nat) (p : Prop) : Firm B (fun _ => p) := ⟨fun _ _ h => h, fun _ _ _ _ h _ _ _ => h⟩

theorem firm_block (B b : Nat) (cs : Array Value) (t : TypeId) : Firm B (fun W => W.heap[b]? = some (.cells cs t (0, 0))) :=
  ⟨fun W o h => (Below.heap_alloc W o b (Array.getElem?_eq_some_iff.1 h).1).trans h, fun W l o _ h _ hl ho => by
    by_cases e : b = l
    · subst e
      rw [h] at hl
      cases hl
      cases ho
    · exact (World.putObj_heap_other e).trans h⟩

theorem firm_lay (B : Nat) (sd : List (Nat × Array Value × TypeId)) : Firm B (Lay sd) :=
  ⟨fun W o h q hq => (firm_block B q.1 q.2.1 q.2.2).new W o (h q hq), fun W l o o' h hB hl ho q hq => (firm_block B q.1 q.2.1 q.2.2).put W l o o' (h q hq) hB hl ho⟩

theorem firm_below (w : World) {n B : Nat} (h : n ≤ B) (hn : n ≤ w.heap.size) : Firm B (fun W => Below n w W) :=
  ⟨fun W o hb => hb.alloc (Nat.le_trans hn hb.size) o, fun W l _ _ hb hB _ _ => hb.trans ⟨rfl, rfl, rfl, by simp, fun k hk => World.putObj_heap_other (by omega)⟩⟩

theorem firm_ex {α : Type} {B : Nat} {I : α → World → Prop} (h : ∀ x, Firm B (I x)) : Firm B (fun W => ∃ x, I x W) :=
  ⟨fun W o ⟨x, hx⟩ => ⟨x, (h x).new W o hx⟩, fun W l o o' ⟨x, hx⟩ hB hl ho => ⟨x, (h x).put W l o o' hx hB hl ho⟩⟩

theorem keepsFrom_below {B : Nat} {W W' : World} (h : Below W.heap.size W W') : KeepsFrom B W W' :=
  ⟨h.size, fun k _ _ hk _ => (h.block k (Array.getElem?_eq_some_iff.1 hk).1).trans hk⟩

/-- How a round's body may be left. -/
def roundEnd (B : Nat) (I : Nat → World → Prop) (Ix : Code → Nat → World → Prop) (k : Nat) (W : World) : Exit → Act → World → Prop
  | .normal, _, W' => KeepsFrom B W W' ∧ I (k + 1) W'
  | .ret, _, W' => KeepsFrom B W W' ∧ Ix .ret k W'
  | .exit id, _, W' => KeepsFrom B W W' ∧ Ix (.exit id) k W'
  | .goto t, _, W' => KeepsFrom B W W' ∧ Ix (.goto t) k W'
  | .panic _, _, _ => False
  | .outgrown, _, _ => False

variable {F : Fence} {n : Nat} {P : Program}

/-- What the function that is ranged over owes: it calls yield for 0, 1, .., N - 1, till it is told to stop. -/
def Shows (F : Fence) (n : Nat) (P : Program) (gf : Nat) (fst lb : Array Value) (N : Nat) (encs : Nat → Array Value) (Rd : World → Prop) : Prop :=
  ∀ (l : Nat) (J Jx : Nat → World → Prop) (W : World), (∀ k W o, J k W → J k (W.alloc o)) → (∀ k W, J k W → Rd W) →
    (∀ k W1, k < N → J k W1 → YieldAt F (n - 1) P l (encs k) W1 fun e W' => (e = .returned (.bool true) ∧ J (k + 1) W') ∨ (e = .returned (.bool false) ∧ Jx k W')) → J 0 W →
    CallsIn F n P gf (fst ++ #[.func (.yield l) #[] #[]] ++ lb) W fun e W' => (∃ v, e = .returned v) ∧ (J N W' ∨ ∃ k, k < N ∧ Jx k W')

theorem wpIn_range_at {g : Operand} {ps : Array Tmp} {assign body : Code} {Q : Exit → Act → World → Prop} {a : Act} {w : World}
    (hro : F.round = none) (h1 : 1 ≤ n) {gf : Nat} {fst lb : Array Value} (hg : a.eval g = .func (.func gf) fst lb) (hFg : F.fn gf) (eg : ∀ args w, (callFunc gf args).run P w = .ok (.enter gf args) w)
    (N : Nat) (encs : Nat → Array Value) (Rd : World → Prop) (hseq : Shows F (n - 1) P gf fst lb N encs Rd) (hps : ∀ k, (encs k).size = ps.size)
    (I : Nat → World → Prop) (Ix : Code → Nat → World → Prop) (hI : ∀ k, Firm w.heap.size (I k)) (hIx : ∀ c k, Firm w.heap.size (Ix c k)) (hRd : ∀ k W, I k W → Rd W) (h0 : I 0 w)
    (Ax : Nat → Act → World → Prop) (hAx : ∀ k a', Firm w.heap.size (Ax k a'))
    (hassign : ∀ (l k : Nat) (W : World) (K : Act → World → Prop), I k W → (∀ a' W', KeepsFrom w.heap.size W W' → I k W' → Ax k a' W' → K a' W') →
      assign.wpIn (F.inRound l) (n - 1 - 1) P (Exit.then K (fun _ _ _ => False)) { tmps := (ps.zip (encs k)).foldl (fun t (p, v) => t.setIfInBounds p v) a.tmps, defers := [] } W)
    (hbody : ∀ (l k : Nat) (a' : Act) (W : World), k < N → I k W → Ax k a' W → body.wpIn (F.inRound l) (n - 1 - 1) P (roundEnd w.heap.size I Ix k W) a' W)
    (hdone : ∀ (D : Nat) (W : World), w.heap.size ≤ D → I N W → W.heap[D]? = some (.deferred (some [])) → Q .normal { a with defers := { target := .collected D, args := #[] } :: a.defers } W)
    (hstop : ∀ (D : Nat) (c : Code) (k : Nat) (W : World), w.heap.size ≤ D → k < N → Ix c k W → W.heap[D]? = some (.deferred (some [])) → c.wpIn F n P Q { a with defers := { target := .collected D, args := #[] } :: a.defers } W) :
    (Code.rangeFunc g ps assign body).wpIn F n P Q a w := by
  refine wpIn_rangeFunc fun fn hfn => ?_
  rw [hro]
  -- the two blocks that the statement lays: D for what rounds defer, L its record
  let rc : LoopState → Option Code → Obj := fun st pe => .loop { state := st, pending := pe, fn, tmps := a.tmps, params := ps, assign, body, defers := w.heap.size }
  have hD0 : (w.alloc (.deferred (some []))).heap[w.heap.size]? = some (.deferred (some [])) := World.alloc_heap_new w _
  have hL1 : ((w.alloc (.deferred (some []))).alloc (rc .ready none)).heap[w.heap.size + 1]? = some (rc .ready none) := by
    have := World.alloc_heap_new (w.alloc (.deferred (some []))) (rc .ready none)
    rwa [World.size_alloc] at this
  have hD1 : ((w.alloc (.deferred (some []))).alloc (rc .ready none)).heap[w.heap.size]? = some (.deferred (some [])) := (Below.heap_alloc _ _ _ (by simp)).trans hD0
  have hI1 : I 0 ((w.alloc (.deferred (some []))).alloc (rc .ready none)) := (hI 0).new _ _ ((hI 0).new _ _ h0)
  refine ⟨w.heap.size + 1, [{ target := .collected w.heap.size, args := #[] }], (w.alloc (.deferred (some []))).alloc (rc .ready none), { target := .fn (.func gf) lb, args := fst ++ #[.func (.yield (w.heap.size + 1)) #[] #[]] }, (w.alloc (.deferred (some []))).alloc (rc .ready none), gf,
    fst ++ #[.func (.yield (w.heap.size + 1)) #[] #[]] ++ lb, (w.alloc (.deferred (some []))).alloc (rc .ready none), run_enterLoop_outer _ _ _ _ _, ?_, ?_, ?_, fun _ => h1, ?_⟩
  · simp only [resolve, hg]
    simp [go_sem]
  · intro f' hf'
    simp [Target.leads] at hf'
    subst hf'
    exact hFg
  · simp [invoke, go_sem, eg]
  -- what stands between two rounds, the record and the block beside it
  refine (hseq (w.heap.size + 1) (fun k W => I k W ∧ W.heap[w.heap.size + 1]? = some (rc .ready none) ∧ W.heap[w.heap.size]? = some (.deferred (some [])))
    (fun k W => ∃ c, Ix c k W ∧ W.heap[w.heap.size + 1]? = some (rc .done (some c)) ∧ W.heap[w.heap.size]? = some (.deferred (some []))) _
    (fun k W o h => ⟨(hI k).new W o h.1, (Below.heap_alloc W o _ (Array.getElem?_eq_some_iff.1 h.2.1).1).trans h.2.1, (Below.heap_alloc W o _ (Array.getElem?_eq_some_iff.1 h.2.2).1).trans h.2.2⟩)
    (fun k W h => hRd k W h.1) ?_ ⟨hI1, hL1, hD1⟩).mono ?_
  · rintro k W hk ⟨hi, hl, hd⟩
    refine ⟨fn, _, assign, body, run_yield hl (hps k), roundIn_of_wpIn hfn (hassign _ k W _ hi fun a1 W1 hk1 hi1 ha1 => ?_)⟩
    have hl1 : W1.heap[w.heap.size + 1]? = some (rc .ready none) := hk1.same _ _ (by omega) hl rfl
    have hd1 : W1.heap[w.heap.size]? = some (.deferred (some [])) := hk1.same _ _ (Nat.le_refl _) hd rfl
    have hs1 := (Array.getElem?_eq_some_iff.1 hl1).1
    refine ⟨_, run_beginRound hl1 rfl, wpIn_mono (hbody _ k a1 _ hk ((hI k).put _ _ _ _ hi1 (by omega) hl1 rfl) ((hAx k a1).put _ _ _ _ ha1 (by omega) hl1 rfl)) ?_⟩
    have hl2 : (W1.putObj (w.heap.size + 1) (rc .busy none)).heap[w.heap.size + 1]? = some (rc .busy none) := World.putObj_heap_same hs1
    have hd2 : (W1.putObj (w.heap.size + 1) (rc .busy none)).heap[w.heap.size]? = some (.deferred (some [])) := (World.putObj_heap_other (by omega)).trans hd1
    -- the round's end, by the way in which it was left
    have fin : ∀ (jump : Option Code) (W3 : World), KeepsFrom w.heap.size (W1.putObj (w.heap.size + 1) (rc .busy none)) W3 →
        W3.heap[w.heap.size + 1]? = some (rc .busy none) ∧ (W3.putObj (w.heap.size + 1) (rc (if jump.isNone then .ready else .done) jump)).heap[w.heap.size + 1]? = some (rc (if jump.isNone then .ready else .done) jump) ∧
        (W3.putObj (w.heap.size + 1) (rc (if jump.isNone then .ready else .done) jump)).heap[w.heap.size]? = some (.deferred (some [])) := fun jump W3 h3 => by
      have hl3 := h3.same _ _ (by omega) hl2 rfl
      exact ⟨hl3, World.putObj_heap_same (Array.getElem?_eq_some_iff.1 hl3).1, (World.putObj_heap_other (by omega)).trans (h3.same _ _ (Nat.le_refl _) hd2 rfl)⟩
    have stop : ∀ (c : Code) (W3 : World), KeepsFrom w.heap.size (W1.putObj (w.heap.size + 1) (rc .busy none)) W3 → Ix c k W3 →
        ∃ v W4, (Instr.endRound (w.heap.size + 1) (some c)).run P W3 = .ok v W4 ∧ ((Ending.returned v = .returned (.bool true) ∧ I (k + 1) W4 ∧ W4.heap[w.heap.size + 1]? = some (rc .ready none) ∧ W4.heap[w.heap.size]? = some (.deferred (some []))) ∨
          (Ending.returned v = .returned (.bool false) ∧ ∃ c, Ix c k W4 ∧ W4.heap[w.heap.size + 1]? = some (rc .done (some c)) ∧ W4.heap[w.heap.size]? = some (.deferred (some [])))) := fun c W3 h3 hx => by
      obtain ⟨hl3, hl4, hd4⟩ := fin (some c) W3 h3
      exact ⟨_, _, run_endRound (some c) hl3, .inr ⟨rfl, c, (hIx c k).put _ _ _ _ hx (by omega) hl3 rfl, hl4, hd4⟩⟩
    rintro e a3 W3 hp
    cases e with
    | normal =>
      obtain ⟨h3, hi3⟩ := hp
      obtain ⟨hl3, hl4, hd4⟩ := fin none W3 h3
      exact ⟨_, _, run_endRound none hl3, .inl ⟨rfl, (hI (k + 1)).put _ _ _ _ hi3 (by omega) hl3 rfl, hl4, hd4⟩⟩
    | ret => exact stop .ret W3 hp.1 hp.2
    | exit id => exact stop (.exit id) W3 hp.1 hp.2
    | goto t => exact stop (.goto t) W3 hp.1 hp.2
    | panic ch => exact hp.elim
    | outgrown => exact hp.elim
  · rintro e W2 ⟨⟨v, rfl⟩, ⟨hi, hl, hd⟩ | ⟨k, hk, c, hi, hl, hd⟩⟩
    · exact ⟨none, _, run_endLoop hl (by simp), hdone _ _ (Nat.le_refl _) ((hI N).put _ _ _ _ hi (by omega) hl rfl) ((World.putObj_heap_other (by omega)).trans hd)⟩
    · exact ⟨some c, _, run_endLoop hl (by simp), hstop _ c k _ (Nat.le_refl _) hk ((hIx c k).put _ _ _ _ hi (by omega) hl rfl) ((World.putObj_heap_other (by omega)).trans hd)⟩

/-- Behind the function's return the block for what rounds defer is shut: nothing else. -/
theorem below_shut {a W : World} {D : Nat} (h : Below a.heap.size a W) (hD : a.heap.size ≤ D) (o : Obj) : Below a.heap.size a (W.putObj D o) :=
  h.trans ⟨rfl, rfl, rfl, by simp, fun k hk => World.putObj_heap_other (by omega)⟩

end Go.Proofs.Ytnnonkmkdjhacaa
