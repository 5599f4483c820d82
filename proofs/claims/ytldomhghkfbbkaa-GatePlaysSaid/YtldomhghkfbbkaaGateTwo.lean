/-
  The program's gate and the document's, side by side, and an op's block beside them: what the calls of each do to both.
-/
import Derived.Test.YtldomhghkfbbkaaGateOps
import Derived.Test.YtldomhghkfbbkaaGateOthers
namespace Go.Proofs.Ytldomhghkfbbkaa.GateLaw
open Go.RowKit Gate GatePkg GateRef Lib
set_option maxRecDepth 4000

/-- Both gates: a, b tokens of the one, a', b' of the other. -/
structure Two (o w : World) (g c d q M a b a' b' : Nat) : Prop where
  gt : Gt w g c d M a b
  rt : Rt w q M a' b'
  lg : o.heap.size ≤ g ∧ o.heap.size ≤ c ∧ o.heap.size ≤ d ∧ o.heap.size ≤ q
  gq : g ≠ q
  below : Below o.heap.size o w

/-- Beside them block X, which is nobody's own. -/
structure Beside (o w : World) (g c d q M a b a' b' X : Nat) (ob : Obj) : Prop extends Two o w g c d q M a b a' b' where
  box : w.heap[X]? = some ob
  out : X ≠ g ∧ X ≠ c ∧ X ≠ d ∧ X ≠ q

section
variable {o w w' : World} {g c d q M a b a' b' X : Nat} {ob : Obj}

theorem Two.qcd (h : Two o w g c d q M a b a' b') : q ≠ c ∧ q ≠ d := by
  obtain ⟨_, s, r, h1⟩ := h.gt.one
  obtain ⟨_, s', r', h2⟩ := h.gt.two
  have hq := h.rt
  unfold Rt at hq
  refine ⟨fun e => ?_, fun e => ?_⟩
  · rw [e, h1] at hq
    simp at hq
  · rw [e, h2] at hq
    simp at hq

theorem Two.size (h : Two o w g c d q M a b a' b') : a ≤ M ∧ b ≤ M ∧ 1 ≤ M ∧ M ≤ 256 := ⟨h.gt.one.1, h.gt.two.1, h.gt.most⟩

theorem Two.lts (h : Two o w g c d q M a b a' b') : g < w.heap.size ∧ c < w.heap.size ∧ d < w.heap.size ∧ q < w.heap.size :=
  ⟨(Array.getElem?_eq_some_iff.1 h.gt.box).1, h.gt.one.lt, h.gt.two.lt, h.rt.lt⟩

/-- The op's block laid. -/
theorem Two.lay (h : Two o w g c d q M a b a' b') (cs : Array Value) (t : TypeId) : Beside o (w.alloc (.cells cs t)) g c d q M a b a' b' w.heap.size (.cells cs t (0, 0)) := by
  have hl := h.lts
  refine ⟨⟨h.gt.keep fun x hx => Below.heap_alloc _ _ _ hx, h.rt.keep (Below.heap_alloc _ _ _ hl.2.2.2), h.lg, h.gq, h.below.alloc h.below.size _⟩, heap_alloc_new _ _, by omega⟩

theorem Beside.drew (h : Beside o w g c d q M a b a' b' X ob) : Beside o w.drew g c d q M a b a' b' X ob :=
  ⟨⟨⟨h.gt.box, h.gt.one, h.gt.two, h.gt.ne, h.gt.most⟩, h.rt, h.lg, h.gq, h.below.drew⟩, h.box, h.out⟩

theorem Beside.gate {x y : Nat} (h : Beside o w g c d q M a b a' b' X ob) (hg : Gt w' g c d M x y) (hk : Keeps c d w w') : Beside o w' g c d q M x y a' b' X ob := by
  have hq := h.qcd
  exact ⟨⟨hg, h.rt.keep (hk.block _ hq.1 hq.2), h.lg, h.gq, hk.below _ _ h.below h.lg.2.1 h.lg.2.2.1⟩, (hk.block _ h.out.2.1 h.out.2.2.1).trans h.box, h.out⟩

theorem Beside.ref {x y : Nat} (h : Beside o w g c d q M a b a' b' X ob) (hr : Rt w' q M x y) (hk : Only q w w') : Beside o w' g c d q M a b x y X ob := by
  have hq := h.qcd
  exact ⟨⟨⟨(hk.block _ h.gq).trans h.gt.box, h.gt.one.keep (hk.block _ (Ne.symm hq.1)), h.gt.two.keep (hk.block _ (Ne.symm hq.2)), h.gt.ne, h.gt.most⟩, hr, h.lg, h.gq, hk.below _ _ h.below h.lg.2.2.2⟩, (hk.block _ h.out.2.2.2).trans h.box, h.out⟩

theorem TakeG (h : Beside o w g c d q M a b a' b' X ob) (k : Int) : Calls Try.prog 13 #[.pointer (some ⟨g, 0, none⟩), .int .i64 k] w
    fun e w' => e = .returned (.bool (decide (0 < left a b k))) ∧ Beside o w' g c d q M (take1 a k) (take2 b k) a' b' X ob :=
  (Take_any h.gt k).mono fun _ _ ⟨he, hg, hk⟩ => ⟨he, h.gate hg hk⟩

theorem TakeR (h : Beside o w g c d q M a b a' b' X ob) (ha : a' ≤ M) (hb : b' ≤ M) (k : Int) : Calls Try.prog 14 #[.pointer (some ⟨q, 0, none⟩), .int .i64 k] w
    fun e w' => e = .returned (.bool (decide (0 < left a' b' k))) ∧ Beside o w' g c d q M a b (take1 a' k) (take2 b' k) X ob :=
  (rTake_any h.rt h.gt.most.2 ha hb k).mono fun _ _ ⟨he, hg, hk⟩ => ⟨he, h.ref hg hk⟩

theorem FillG (h : Beside o w g c d q M a b a' b' X ob) (free low high : Int) : Calls Try.prog 17 #[.pointer (some ⟨g, 0, none⟩), .int .i64 free, .int .i64 low, .int .i64 high] w
    fun e w' => e = .returned (.tuple #[]) ∧ Beside o w' g c d q M (fst free low high M).toNat (snd free low high M).toNat a' b' X ob :=
  (Fill_any h.gt free low high).mono fun _ _ ⟨he, hg, hk⟩ => ⟨he, h.gate hg hk⟩

theorem FillR (h : Beside o w g c d q M a b a' b' X ob) (free low high : Int) (h0 : -9223372036854775808 ≤ free) (h1 : free ≤ 9223372036854775807) : Calls Try.prog 18 #[.pointer (some ⟨q, 0, none⟩), .int .i64 free, .int .i64 low, .int .i64 high] w
    fun e w' => e = .returned (.tuple #[]) ∧ Beside o w' g c d q M a b (fst free low high M).toNat (snd free low high M).toNat X ob :=
  (rFill_any h.rt free low high h0 h1).mono fun _ _ ⟨he, hg, hk⟩ => ⟨he, h.ref hg hk⟩

/-- Both are new. -/
theorem two_new {o w1 w2 : World} {g c d M : Nat} (hg : o.heap.size ≤ g) (hc : o.heap.size ≤ c) (hd : o.heap.size ≤ d) (hG : Gt w1 g c d M 0 0) (hb : Below o.heap.size o w1) (hr : Rt w2 w1.heap.size M 0 0) (hb2 : Below w1.heap.size w1 w2) :
    Two o w2 g c d w1.heap.size M 0 0 0 0 := by
  have hl : g < w1.heap.size := (Array.getElem?_eq_some_iff.1 hG.box).1
  exact ⟨hG.keep fun x hx => hb2.block x hx, hr, ⟨hg, hc, hd, hb.size⟩, by omega, hb.trans (hb2.mono hb.size)⟩
end
end Go.Proofs.Ytldomhghkfbbkaa.GateLaw
