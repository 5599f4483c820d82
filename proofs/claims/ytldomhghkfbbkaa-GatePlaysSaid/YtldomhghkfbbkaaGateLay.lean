/-
  What lay of package gate does, for every number, over a channel that holds so many tokens: a loop around a select of one send with a default, walked over the machine's own steps.
-/
import Derived.Test.YtldomhghkfbbkaaGateTake
namespace Go.Proofs.Ytldomhghkfbbkaa.GatePkg
open Go.Conc Go.RowKit

theorem build_tok (w : World) : (Instr.build 55 #[]).run Try.prog w = .ok (.agg #[]) w := run_build w 55 #[] #[] (by kernel_rfl)

noncomputable def layWhole : Code := unScope (Try.f23.body.getD .skip)
noncomputable def layBody : Code := unLoop (unBlock (sndSeq (sndSeq (unScope (Try.f23.body.getD .skip)))))

/-- What the call comes to: it returns, in the world w0. -/
def EndsL (cs : List Frame) (w0 : World) (g' : Goroutine) (w' : World) : Prop := ∃ e fr, g' = G fr cs ∧ (e = .returned (.tuple #[]) ∧ w' = w0) ∧ fr.fn = 23 ∧ fr.leaving Try.prog w' e

set_option maxRecDepth 100000 in
theorem lay_out (n i : Int) (h : ¬ i < n) (cs : List Frame) (w : World) (V j2 j3 j6 j7 j8 j9 j10 j11 j12 : Value) :
    LoneTo Try.prog (EndsL cs w) (G ((base 23).at ⟨#[V, .int .i64 n, j2, j3, .int .i64 n, .int .i64 i, j6, j7, j8, j9, j10, j11, j12], []⟩ [.code layBody, .inLoop layBody, .inBlock 0, .inScope layWhole]) cs) w := by
  refine LoneTo.goes (n := 30) ?_
  simp only [layBody, layWhole, Try.f23, Option.getD_some, sndSeq, unBlock, unLoop, unScope]
  s_c stepG_seq
  s_reg
  s_op
  s_c stepG_region_end
  s_c stepG_seq
  s_cond false
  s_exit
  s_c stepG_inScope
  s_c stepG_end
  s_stop
  exact LoneTo.done ⟨.returned (.tuple #[]), _, rfl, ⟨rfl, rfl⟩, rfl, rfl, rfl, rfl, _, Try.func23, by simp [results, Try.f23, Frame.at]⟩

set_option maxRecDepth 100000 in
/-- There is no room: the default. -/
theorem lay_full (n i : Int) (h : i < n) (cs : List Frame) (w : World) {c cap s r : Nat} {buf : Array Value} (hc : w.heap[c]? = some (.chan cap buf false s r false)) (hf : cap ≤ buf.size) (j2 j3 j6 j7 j8 j9 j10 j11 j12 : Value) :
    LoneTo Try.prog (EndsL cs w) (G ((base 23).at ⟨#[.chan (some c), .int .i64 n, j2, j3, .int .i64 n, .int .i64 i, j6, j7, j8, j9, j10, j11, j12], []⟩ [.code layBody, .inLoop layBody, .inBlock 0, .inScope layWhole]) cs) w := by
  have hbd := build_tok
  refine LoneTo.goes (n := 30) ?_
  simp only [layBody, layWhole, Try.f23, Option.getD_some, sndSeq, unBlock, unLoop, unScope]
  s_c stepG_seq
  s_reg
  s_op
  s_c stepG_region_end
  s_c stepG_seq
  s_cond true
  s_c stepG_skip
  s_c stepG_seq
  s_c stepG_block
  s_c stepG_seq
  s_c stepG_seq
  s_reg
  s_op
  s_c stepG_region_end
  s_reg
  s_op
  s_c stepG_region_end
  s_c stepG_seq
  s_reg
  s_stop
  refine LoneTo.step (step_lone_select_send_full (c := c) (v := tok) (z' := tok) (stepG_comm (cases := #[scase c tok tok]) (blocking := false) (shape := .select) (w' := w) rfl rfl (by decide) (by simp [go_sem, execOp, scase, Act.eval])) hc hf) ?_
  rw [Frame.finish_at]
  walk_nrm
  refine LoneTo.goes (n := 30) ?_
  s_op
  s_op
  s_c stepG_region_end
  s_c stepG_block
  s_cond false
  s_exit
  s_c stepG_inScope
  s_c stepG_end
  s_stop
  exact LoneTo.done ⟨.returned (.tuple #[]), _, rfl, ⟨rfl, rfl⟩, rfl, rfl, rfl, rfl, _, Try.func23, by simp [results, Try.f23, Frame.at]⟩

set_option maxRecDepth 100000 in
/-- The rounds, over a channel that holds m tokens and has room for d more. -/
theorem lay_rounds (n : Int) (hn : n ≤ 9223372036854775807) (cs : List Frame) (c cap r : Nat) :
    ∀ (d m k : Nat) (i : Int) (s : Nat) (w : World) (j2 j3 j6 j7 j8 j9 j10 j11 j12 : Value), 0 ≤ i → m + d = cap → k = min (n - i).toNat d → w.heap[c]? = some (.chan cap (toks m) false s r false) →
      LoneTo Try.prog (EndsL cs (w.setChan c cap (toks (m + k)) false (s + k) r false)) (G ((base 23).at ⟨#[.chan (some c), .int .i64 n, j2, j3, .int .i64 n, .int .i64 i, j6, j7, j8, j9, j10, j11, j12], []⟩ [.code layBody, .inLoop layBody, .inBlock 0, .inScope layWhole]) cs) w := by
  intro d
  induction d with
  | zero =>
    intro m k i s w j2 j3 j6 j7 j8 j9 j10 j11 j12 h0 hd hk hc
    have hk0 : k = 0 := by omega
    subst hk0
    have hw : w.setChan c cap (toks (m + 0)) false (s + 0) r false = w := setChan_same hc
    rw [hw]
    by_cases h : i < n
    · exact lay_full n i h cs w hc (by simp [toks]; omega) _ _ _ _ _ _ _ _ _
    · exact lay_out n i h cs w _ _ _ _ _ _ _ _ _ _
  | succ d ih =>
    intro m k i s w j2 j3 j6 j7 j8 j9 j10 j11 j12 h0 hd hk hc
    by_cases h : i < n
    · obtain ⟨k', rfl⟩ : ∃ k', k = k' + 1 := ⟨k - 1, by omega⟩
      have hw1 : IntKind.i64.wrap (i + 1) = i + 1 := wrap_small (i + 1) (by omega) (by omega)
      have hlt := chan_lt hc
      have hbd := build_tok
      have hnext := ih (m + 1) k' (i + 1) (s + 1) (w.setChan c cap (toks (m + 1)) false (s + 1) r false)
      rw [setChan_twice] at hnext
      have e2 : s + 1 + k' = s + (k' + 1) := by omega
      have e3 : m + 1 + k' = m + (k' + 1) := by omega
      rw [e2, e3] at hnext
      refine LoneTo.goes (n := 30) ?_
      simp only [layBody, layWhole, Try.f23, Option.getD_some, sndSeq, unBlock, unLoop, unScope]
      s_c stepG_seq
      s_reg
      s_op
      s_c stepG_region_end
      s_c stepG_seq
      s_cond true
      s_c stepG_skip
      s_c stepG_seq
      s_c stepG_block
      s_c stepG_seq
      s_c stepG_seq
      s_reg
      s_op
      s_c stepG_region_end
      s_reg
      s_op
      s_c stepG_region_end
      s_c stepG_seq
      s_reg
      s_stop
      refine LoneTo.step (step_lone_select_send_room (c := c) (cap := cap) (buf := toks m) (s := s) (r := r) (tm := false) (v := tok) (z' := tok) (stepG_comm (cases := #[scase c tok tok]) (blocking := false) (shape := .select) (w' := w) rfl rfl (by decide) (by simp [go_sem, execOp, scase, Act.eval])) hc (by simp [toks]; omega)) ?_
      rw [Frame.finish_at, toks_push]
      walk_nrm
      refine LoneTo.goes (n := 30) ?_
      s_op
      s_op
      s_c stepG_region_end
      s_c stepG_block
      s_cond true
      s_c stepG_skip
      s_c stepG_inBlock
      s_c stepG_inBlock
      s_reg
      s_op
      s_op
      s_c stepG_region_end
      s_c stepG_inLoop
      s_stop
      exact hnext _ _ _ _ _ _ _ _ _ (by omega) (by omega) (by omega) (heap_setChan w c cap (toks (m + 1)) false (s + 1) r false hlt)
    · have hk0 : k = 0 := by omega
      subst hk0
      have hw : w.setChan c cap (toks (m + 0)) false (s + 0) r false = w := setChan_same hc
      rw [hw]
      exact lay_out n i h cs w _ _ _ _ _ _ _ _ _ _

theorem enter_lay (V : Value) (n : Int) (cs : List Frame) (w : World) {Q : Goroutine → World → Prop}
    (h : ∀ j2 j3 j6 j7 j8 j9 j10 j11 j12 : Value, LoneTo Try.prog Q (G ((base 23).at ⟨#[V, .int .i64 n, j2, j3, .int .i64 n, .int .i64 0, j6, j7, j8, j9, j10, j11, j12], []⟩ [.code layBody, .inLoop layBody, .inBlock 0, .inScope layWhole]) cs) w) :
    LoneTo Try.prog Q (G (Frame.enter Try.prog 23 #[V, .int .i64 n] .normal) cs) w := by
  have e : Frame.enter Try.prog 23 #[V, .int .i64 n] .normal = (base 23).at ⟨#[V, .int .i64 n, undef, undef, undef, undef, undef, undef, undef, undef, undef, undef, undef], []⟩ [.code (Try.f23.body.getD .skip)] := by
    simp [Frame.enter, Frame.at, Try.func23, base, Try.f23]
  rw [e]
  simp only [layBody, layWhole, Try.f23, Option.getD_some, sndSeq, unBlock, unLoop, unScope] at h ⊢
  refine LoneTo.goes (n := 30) ?_
  s_c stepG_scope
  s_c stepG_seq
  s_c stepG_label
  s_c stepG_seq
  s_reg
  s_op
  s_op
  s_c stepG_region_end
  s_c stepG_block
  s_c stepG_loop
  s_stop
  exact h _ _ _ _ _ _ _ _ _

/-- lay over a channel of m tokens: n more, as long as there is room. -/
theorem lay_any (n : Int) (hn : n ≤ 9223372036854775807) {c cap s r m k : Nat} (w : World) (hm : m ≤ cap) (hk : k = min n.toNat (cap - m)) (hc : w.heap[c]? = some (.chan cap (toks m) false s r false)) :
    Calls Try.prog 23 #[.chan (some c), .int .i64 n] w fun e w' => e = .returned (.tuple #[]) ∧ w' = w.setChan c cap (toks (m + k)) false (s + k) r false := by
  refine calls_of_loneTo fun cs => ?_
  refine enter_lay _ n cs w fun j2 j3 j6 j7 j8 j9 j10 j11 j12 => ?_
  have hh := lay_rounds n hn cs c cap r (cap - m) m k 0 s w j2 j3 j6 j7 j8 j9 j10 j11 j12 (by omega) (by omega) (by omega) hc
  refine mono_lone hh ?_
  rintro g' w' ⟨e, fr, h1, ⟨h2, h3⟩, h4, h5⟩
  exact ⟨e, fr, h1, ⟨h2, h3⟩, h4, h5⟩

end Go.Proofs.Ytldomhghkfbbkaa.GatePkg
