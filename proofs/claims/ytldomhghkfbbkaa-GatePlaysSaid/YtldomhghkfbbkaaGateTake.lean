/-
  What take of package gate does, for every number, over a channel that holds so many tokens, or over none: a loop around a select of one receive with a default, walked over the machine's own steps.
-/
import Derived.Test.YtldomhghkfbbkaaChecked
import Derived.Conc.LoneSelect
import Derived.KernelRfl
import Derived.Laws.Rows
import Derived.Laws.Runes
import Derived.Laws.Tables
namespace Go.Proofs.Ytldomhghkfbbkaa.GatePkg
open Go.Conc Go.RowKit

/-- A token. -/
abbrev tok : Value := .agg #[]
/-- So many tokens. -/
def toks (m : Nat) : Array Value := Array.replicate m tok

section
variable {P : Program} {main : Bool} {b : Frame} {a : Act} {k : List Item} {cs : List Frame} {w : World}
theorem stepG_scope {c : Code} : stepG P main (G (b.at a (.code (.scope c) :: k)) cs) w = .go (G (b.at a (.code c :: .inScope c :: k)) cs) w := by simp [G, stepG, stepG.exec, Frame.at]
theorem stepG_inScope {c : Code} : stepG P main (G (b.at a (.inScope c :: k)) cs) w = .go (G (b.at a k) cs) w := by simp [G, stepG, stepG.exec, Frame.at]
end

theorem setChan_same {w : World} {c cap s r : Nat} {buf : Array Value} {cl tm : Bool} (h : w.heap[c]? = some (.chan cap buf cl s r tm)) : w.setChan c cap buf cl s r tm = w := by
  have hlt := (Array.getElem?_eq_some_iff.1 h).1
  have hs : w.heap.setIfInBounds c (.chan cap buf cl s r tm) = w.heap := by
    apply Array.ext_getElem?
    intro i
    rw [Array.getElem?_setIfInBounds]
    split
    · rename_i e
      subst e
      exact h.symm
    · rfl
  simp [World.setChan, hs]
theorem setChan_twice (w : World) (c cap s r s' r' : Nat) (buf buf' : Array Value) (cl cl' tm tm' : Bool) : (w.setChan c cap buf cl s r tm).setChan c cap buf' cl' s' r' tm' = w.setChan c cap buf' cl' s' r' tm' := by
  simp [World.setChan]
theorem setChan_other (w : World) (c c' cap : Nat) (buf : Array Value) (closed : Bool) (s r : Nat) (tm : Bool) (h : c ≠ c') : (w.setChan c cap buf closed s r tm).heap[c']? = w.heap[c']? := by
  simp [World.setChan, Array.getElem?_setIfInBounds_ne h]
theorem chan_lt {w : World} {c cap s r : Nat} {buf : Array Value} {cl tm : Bool} (h : w.heap[c]? = some (.chan cap buf cl s r tm)) : c < w.heap.size := (Array.getElem?_eq_some_iff.1 h).1

theorem toks_head (m : Nat) : (toks (m + 1)).getD 0 undef = tok := by simp [toks, Array.getD_eq_getD_getElem?]
theorem toks_tail (m : Nat) : (toks (m + 1)).extract 1 (toks (m + 1)).size = toks m := by simp [toks]
theorem toks_zero : toks 0 = #[] := rfl
theorem toks_push (m : Nat) : (toks m).push tok = toks (m + 1) := by simp [toks, Array.replicate_succ]

def sndSeq : Code → Code | .seq _ b => b | c => c
def fstSeq : Code → Code | .seq a _ => a | c => c
def unBlock : Code → Code | .block _ c => c | c => c
def unLoop : Code → Code | .loop c => c | c => c
def unScope : Code → Code | .scope c => c | c => c

noncomputable def takeWhole : Code := unScope (sndSeq (Try.f21.body.getD .skip))
noncomputable def takeBody : Code := unLoop (unBlock (fstSeq (sndSeq (sndSeq (unScope (sndSeq (Try.f21.body.getD .skip)))))))
noncomputable def takeAfter : Code := sndSeq (sndSeq (sndSeq (unScope (sndSeq (Try.f21.body.getD .skip)))))

/-- What the call comes to: it returns n, in the world w0. -/
def EndsT (cs : List Frame) (n : Int) (w0 : World) (g' : Goroutine) (w' : World) : Prop := ∃ e fr, g' = G fr cs ∧ (e = .returned (.int .i64 n) ∧ w' = w0) ∧ fr.fn = 21 ∧ fr.leaving Try.prog w' e

set_option maxRecDepth 100000 in
theorem take_out (n i : Int) (h : ¬ i < n) (cs : List Frame) (w : World) (V j2 j3 j4 j6 j7 j8 j9 j10 j11 j12 j13 j14 j15 : Value) :
    LoneTo Try.prog (EndsT cs i w) (G ((base 21).at ⟨#[V, .int .i64 n, j2, j3, j4, .int .i64 i, j6, j7, j8, j9, j10, j11, j12, j13, j14, j15], []⟩ [.code takeBody, .inLoop takeBody, .inBlock 0, .code takeAfter, .inScope takeWhole]) cs) w := by
  refine LoneTo.goes (n := 30) ?_
  simp only [takeBody, takeAfter, takeWhole, Try.f21, Option.getD_some, sndSeq, fstSeq, unBlock, unLoop, unScope]
  s_c stepG_seq
  s_c stepG_seq
  s_reg
  s_op
  s_op
  s_op
  s_c stepG_region_end
  s_cond false
  s_exit
  s_c stepG_seq
  s_reg
  s_op
  s_op
  s_c stepG_region_end
  s_c stepG_ret'
  s_stop
  exact LoneTo.done ⟨.returned (.int .i64 i), _, rfl, ⟨rfl, rfl⟩, rfl, rfl, rfl, rfl, _, Try.func21, by simp [results, Try.f21, Frame.at]⟩

set_option maxRecDepth 100000 in
/-- Behind the select where the default was taken. -/
theorem take_none (n i : Int) (h : i < n) (cs : List Frame) (w : World) (j2 j3 j4 j6 j7 j8 j9 j10 j11 j12 j13 j14 j15 : Value) :
    LoneTo Try.prog (EndsT cs i w) (G ((base 21).at ⟨#[.chan none, .int .i64 n, j2, j3, j4, .int .i64 i, j6, j7, j8, j9, j10, j11, j12, j13, j14, j15], []⟩ [.code takeBody, .inLoop takeBody, .inBlock 0, .code takeAfter, .inScope takeWhole]) cs) w := by
  refine LoneTo.goes (n := 30) ?_
  simp only [takeBody, takeAfter, takeWhole, Try.f21, Option.getD_some, sndSeq, fstSeq, unBlock, unLoop, unScope]
  s_c stepG_seq
  s_c stepG_seq
  s_reg
  s_op
  s_op
  s_op
  s_c stepG_region_end
  s_cond true
  s_c stepG_skip
  s_c stepG_block
  s_c stepG_seq
  s_reg
  s_op
  s_c stepG_region_end
  s_c stepG_seq
  s_reg
  s_stop
  refine LoneTo.step (step_lone_select_recv_nil (z := tok) (stepG_comm (cases := #[rcaseNil tok]) (blocking := false) (shape := .select) (w' := w) rfl rfl (by decide) (by simp [go_sem, execOp, rcaseNil, Act.eval]))) ?_
  rw [Frame.finish_at]
  walk_nrm
  refine LoneTo.goes (n := 30) ?_
  s_op
  s_op
  s_c stepG_region_end
  s_c stepG_block
  s_cond false
  s_exit
  s_c stepG_seq
  s_reg
  s_op
  s_op
  s_c stepG_region_end
  s_c stepG_ret'
  s_stop
  exact LoneTo.done ⟨.returned (.int .i64 i), _, rfl, ⟨rfl, rfl⟩, rfl, rfl, rfl, rfl, _, Try.func21, by simp [results, Try.f21, Frame.at]⟩

set_option maxRecDepth 100000 in
/-- The channel is empty: the default. -/
theorem take_empty (n i : Int) (h : i < n) (cs : List Frame) (w : World) {c cap s r : Nat} (hc : w.heap[c]? = some (.chan cap (toks 0) false s r false)) (j2 j3 j4 j6 j7 j8 j9 j10 j11 j12 j13 j14 j15 : Value) :
    LoneTo Try.prog (EndsT cs i w) (G ((base 21).at ⟨#[.chan (some c), .int .i64 n, j2, j3, j4, .int .i64 i, j6, j7, j8, j9, j10, j11, j12, j13, j14, j15], []⟩ [.code takeBody, .inLoop takeBody, .inBlock 0, .code takeAfter, .inScope takeWhole]) cs) w := by
  refine LoneTo.goes (n := 30) ?_
  simp only [takeBody, takeAfter, takeWhole, Try.f21, Option.getD_some, sndSeq, fstSeq, unBlock, unLoop, unScope]
  s_c stepG_seq
  s_c stepG_seq
  s_reg
  s_op
  s_op
  s_op
  s_c stepG_region_end
  s_cond true
  s_c stepG_skip
  s_c stepG_block
  s_c stepG_seq
  s_reg
  s_op
  s_c stepG_region_end
  s_c stepG_seq
  s_reg
  s_stop
  refine LoneTo.step (step_lone_select_default (c := c) (z := tok) (stepG_comm (cases := #[rcase c tok]) (blocking := false) (shape := .select) (w' := w) rfl rfl (by decide) (by simp [go_sem, execOp, rcase, Act.eval])) hc) ?_
  rw [Frame.finish_at]
  walk_nrm
  refine LoneTo.goes (n := 30) ?_
  s_op
  s_op
  s_c stepG_region_end
  s_c stepG_block
  s_cond false
  s_exit
  s_c stepG_seq
  s_reg
  s_op
  s_op
  s_c stepG_region_end
  s_c stepG_ret'
  s_stop
  exact LoneTo.done ⟨.returned (.int .i64 i), _, rfl, ⟨rfl, rfl⟩, rfl, rfl, rfl, rfl, _, Try.func21, by simp [results, Try.f21, Frame.at]⟩

set_option maxRecDepth 100000 in
/-- The rounds, over a channel that holds m tokens. -/
theorem take_rounds (n : Int) (hn : n ≤ 9223372036854775807) (cs : List Frame) (c cap s : Nat) :
    ∀ (m k : Nat) (i : Int) (r : Nat) (w : World) (j2 j3 j4 j6 j7 j8 j9 j10 j11 j12 j13 j14 j15 : Value), 0 ≤ i → k = min (n - i).toNat m → w.heap[c]? = some (.chan cap (toks m) false s r false) →
      LoneTo Try.prog (EndsT cs (i + k) (w.setChan c cap (toks (m - k)) false s (r + k) false)) (G ((base 21).at ⟨#[.chan (some c), .int .i64 n, j2, j3, j4, .int .i64 i, j6, j7, j8, j9, j10, j11, j12, j13, j14, j15], []⟩ [.code takeBody, .inLoop takeBody, .inBlock 0, .code takeAfter, .inScope takeWhole]) cs) w := by
  intro m
  induction m with
  | zero =>
    intro k i r w j2 j3 j4 j6 j7 j8 j9 j10 j11 j12 j13 j14 j15 h0 hk hc
    have hk0 : k = 0 := by omega
    subst hk0
    have hw : w.setChan c cap (toks (0 - 0)) false s (r + 0) false = w := setChan_same hc
    rw [hw]
    have hi : i + ((0 : Nat) : Int) = i := by omega
    rw [hi]
    by_cases h : i < n
    · exact take_empty n i h cs w hc _ _ _ _ _ _ _ _ _ _ _ _ _
    · exact take_out n i h cs w _ _ _ _ _ _ _ _ _ _ _ _ _ _
  | succ m ih =>
    intro k i r w j2 j3 j4 j6 j7 j8 j9 j10 j11 j12 j13 j14 j15 h0 hk hc
    by_cases h : i < n
    · obtain ⟨k', rfl⟩ : ∃ k', k = k' + 1 := ⟨k - 1, by omega⟩
      have hw1 : IntKind.i64.wrap (i + 1) = i + 1 := wrap_small (i + 1) (by omega) (by omega)
      have hlt := chan_lt hc
      have hnext := ih k' (i + 1) (r + 1) (w.setChan c cap (toks m) false s (r + 1) false)
      rw [setChan_twice] at hnext
      have e1 : i + 1 + (k' : Int) = i + ((k' + 1 : Nat) : Int) := by omega
      have e2 : r + 1 + k' = r + (k' + 1) := by omega
      have e3 : m + 1 - (k' + 1) = m - k' := by omega
      rw [e1, e2, ← e3] at hnext
      refine LoneTo.goes (n := 30) ?_
      simp only [takeBody, takeAfter, takeWhole, Try.f21, Option.getD_some, sndSeq, fstSeq, unBlock, unLoop, unScope]
      s_c stepG_seq
      s_c stepG_seq
      s_reg
      s_op
      s_op
      s_op
      s_c stepG_region_end
      s_cond true
      s_c stepG_skip
      s_c stepG_block
      s_c stepG_seq
      s_reg
      s_op
      s_c stepG_region_end
      s_c stepG_seq
      s_reg
      s_stop
      refine LoneTo.step (step_lone_select_recv_buf (c := c) (cap := cap) (buf := toks (m + 1)) (closed := false) (s := s) (r := r) (tm := false) (z := tok) (stepG_comm (cases := #[rcase c tok]) (blocking := false) (shape := .select) (w' := w) rfl rfl (by decide) (by simp [go_sem, execOp, rcase, Act.eval])) hc (by simp [toks])) ?_
      rw [Frame.finish_at, toks_head, toks_tail]
      walk_nrm
      refine LoneTo.goes (n := 30) ?_
      s_op
      s_op
      s_c stepG_region_end
      s_c stepG_block
      s_cond true
      s_reg
      s_op
      s_op
      s_op
      s_c stepG_region_end
      s_c stepG_inBlock
      s_c stepG_inBlock
      s_c stepG_inLoop
      s_stop
      exact hnext _ _ _ _ _ _ _ _ _ _ _ _ _ (by omega) (by omega) (heap_setChan w c cap (toks m) false s (r + 1) false hlt)
    · have hk0 : k = 0 := by omega
      subst hk0
      have hw : w.setChan c cap (toks (m + 1 - 0)) false s (r + 0) false = w := setChan_same hc
      rw [hw]
      have hi : i + ((0 : Nat) : Int) = i := by omega
      rw [hi]
      exact take_out n i h cs w _ _ _ _ _ _ _ _ _ _ _ _ _ _

theorem enter_take (V : Value) (n : Int) (cs : List Frame) (w : World) {Q : Goroutine → World → Prop}
    (h : ∀ j2 j3 j4 j6 j7 j8 j9 j10 j11 j12 j13 j14 j15 : Value, LoneTo Try.prog Q (G ((base 21).at ⟨#[V, .int .i64 n, j2, j3, j4, .int .i64 0, j6, j7, j8, j9, j10, j11, j12, j13, j14, j15], []⟩ [.code takeBody, .inLoop takeBody, .inBlock 0, .code takeAfter, .inScope takeWhole]) cs) w) :
    LoneTo Try.prog Q (G (Frame.enter Try.prog 21 #[V, .int .i64 n] .normal) cs) w := by
  have e : Frame.enter Try.prog 21 #[V, .int .i64 n] .normal = (base 21).at ⟨#[V, .int .i64 n, undef, undef, undef, undef, undef, undef, undef, undef, undef, undef, undef, undef, undef, undef], []⟩ [.code (Try.f21.body.getD .skip)] := by
    simp [Frame.enter, Frame.at, Try.func21, base, Try.f21]
  rw [e]
  simp only [takeBody, takeAfter, takeWhole, Try.f21, Option.getD_some, sndSeq, fstSeq, unBlock, unLoop, unScope] at h ⊢
  refine LoneTo.goes (n := 30) ?_
  s_c stepG_seq
  s_reg
  s_op
  s_c stepG_region_end
  s_c stepG_scope
  s_c stepG_seq
  s_reg
  s_op
  s_c stepG_region_end
  s_c stepG_seq
  s_c stepG_label
  s_c stepG_seq
  s_c stepG_block
  s_c stepG_loop
  s_stop
  exact h _ _ _ _ _ _ _ _ _ _ _ _ _

theorem mono_lone {P : Program} {Q Q' : Goroutine → World → Prop} {g : Goroutine} {w : World} (h : LoneTo P Q g w) (hq : ∀ g' w', Q g' w' → Q' g' w') : LoneTo P Q' g w :=
  let ⟨g', w', s, q⟩ := h
  ⟨g', w', s, hq _ _ q⟩

/-- take over a channel of m tokens: as many as there are, at most n. -/
theorem take_any (n : Int) (hn : n ≤ 9223372036854775807) {c cap s r m k : Nat} (w : World) (hk : k = min n.toNat m) (hc : w.heap[c]? = some (.chan cap (toks m) false s r false)) :
    Calls Try.prog 21 #[.chan (some c), .int .i64 n] w fun e w' => e = .returned (.int .i64 k) ∧ w' = w.setChan c cap (toks (m - k)) false s (r + k) false := by
  refine calls_of_loneTo fun cs => ?_
  refine enter_take _ n cs w fun j2 j3 j4 j6 j7 j8 j9 j10 j11 j12 j13 j14 j15 => ?_
  have hh := take_rounds n hn cs c cap s m k 0 r w j2 j3 j4 j6 j7 j8 j9 j10 j11 j12 j13 j14 j15 (by omega) (by omega) hc
  refine mono_lone hh ?_
  rintro g' w' ⟨e, fr, h1, ⟨h2, h3⟩, h4, h5⟩
  exact ⟨e, fr, h1, ⟨by rw [h2, Int.zero_add], h3⟩, h4, h5⟩

/-- take over no channel: none. -/
theorem take_nil (n : Int) (w : World) :
    Calls Try.prog 21 #[.chan none, .int .i64 n] w fun e w' => e = .returned (.int .i64 0) ∧ w' = w := by
  refine calls_of_loneTo fun cs => ?_
  refine enter_take _ n cs w fun j2 j3 j4 j6 j7 j8 j9 j10 j11 j12 j13 j14 j15 => ?_
  by_cases h : 0 < n
  · exact take_none n 0 h cs w _ _ _ _ _ _ _ _ _ _ _ _ _
  · exact take_out n 0 h cs w _ _ _ _ _ _ _ _ _ _ _ _ _ _

end Go.Proofs.Ytldomhghkfbbkaa.GatePkg
