/-
  What may have turned between two worlds: what is owned, and what is new. A slice of bytes that lies in blocks of a set. Nothing of the program's code is named here.
-/
import Derived.Test.YtkpneckgpolaoaaBag
namespace Go.Proofs.Ytkpneckgpolaoaa
open Go.RowKit
set_option maxRecDepth 4000

/-- From w to w' nothing of old memory has turned but what O owns; what O' owns was O's or is new. -/
structure Turn (O O' : Nat → Prop) (w w' : World) : Prop where
  os : w'.os = w.os
  tape : w'.tape = w.tape
  output : w'.output = w.output
  size : w.heap.size ≤ w'.heap.size
  block : ∀ b, b < w.heap.size → ¬ O b → w'.heap[b]? = w.heap[b]?
  own : ∀ b, O' b → O b ∨ w.heap.size ≤ b

section
variable {O O' O'' : Nat → Prop} {w w' w'' : World} {B : Nat}

theorem Turn.trans (h : Turn O O' w w') (k : Turn O' O'' w' w'') : Turn O O'' w w'' :=
  ⟨k.os.trans h.os, k.tape.trans h.tape, k.output.trans h.output, Nat.le_trans h.size k.size,
    fun b hb hn => (k.block b (Nat.lt_of_lt_of_le hb h.size) (fun ho => (h.own b ho).elim hn (fun hs => by omega))).trans (h.block b hb hn),
    fun b hb => (k.own b hb).elim (h.own b) (fun hs => Or.inr (Nat.le_trans h.size hs))⟩

theorem Turn.of_below (O : Nat → Prop) (h : Below w.heap.size w w') : Turn O O w w' := ⟨h.os, h.tape, h.output, h.size, fun b hb _ => h.block b hb, fun _ h => Or.inl h⟩

theorem Turn.refl (O : Nat → Prop) (w : World) : Turn O O w w := Turn.of_below O (Below.refl _ _)

theorem Turn.of_grown {r : Nat} (h : w.grownBy w' (some r)) (hr : O r) : Turn O O w w' :=
  ⟨h.os, h.tape, h.output, h.size, fun b hb hn => h.block b hb (fun e => hn (by injection e with e; rw [e]; exact hr)), fun _ h => Or.inl h⟩

theorem Turn.mono (h : Turn O O' w w') {O2 : Nat → Prop} (ho : ∀ b, O b → O2 b) : Turn O2 O' w w' :=
  ⟨h.os, h.tape, h.output, h.size, fun b hb hn => h.block b hb (fun e => hn (ho b e)), fun b hb => (h.own b hb).imp (ho b) id⟩

theorem Turn.widen (h : Turn O O w w') (ho : ∀ b, O' b → O b ∨ w.heap.size ≤ b) : Turn O O' w w' := ⟨h.os, h.tape, h.output, h.size, h.block, ho⟩

theorem Turn.below (h : Turn O O' w w') (ho : ∀ b, O b → B ≤ b) (hB : B ≤ w.heap.size) : Below B w w' :=
  ⟨h.os, h.tape, h.output, h.size, fun b hb => h.block b (by omega) (fun e => by have := ho b e; omega)⟩

theorem Turn.up (h : Turn O O' w w') (ho : ∀ b, O b → B ≤ b) (hB : B ≤ w.heap.size) : ∀ b, O' b → B ≤ b :=
  fun b hb => (h.own b hb).elim (ho b) (fun hs => Nat.le_trans hB hs)

/-- What another one owns stays. -/
theorem Turn.kept (h : Turn O O' w w') {O2 : Nat → Prop} (hlt : ∀ b, O2 b → b < w.heap.size) (hd : ∀ b, O2 b → ¬ O b) : ∀ b, O2 b → w'.heap[b]? = w.heap[b]? := fun b hb => h.block b (hlt b hb) (hd b hb)

theorem Turn.apart (h : Turn O O' w w') {O2 : Nat → Prop} (hlt : ∀ b, O2 b → b < w.heap.size) (hd : ∀ b, O2 b → ¬ O b) : ∀ b, O2 b → ¬ O' b :=
  fun b hb ho => (h.own b ho).elim (hd b hb) (fun hs => by have := hlt b hb; omega)
end

/-- A slice of bytes that lies in a block of D (nil let in). -/
def Lie (w : World) (D : Nat → Prop) (A : Option Addr) (n : Nat) (xs : List UInt8) : Prop :=
  xs.length = n ∧ ∀ i (h : i < xs.length), ∃ b off, A = some ⟨b, off, none⟩ ∧ D b ∧ w.cell? ⟨b, off + i, none⟩ = some (.int .u8 ((xs[i]).toNat : Int))

theorem Lie.keep {w w' : World} {D D' : Nat → Prop} {A : Option Addr} {n : Nat} {xs : List UInt8} (h : Lie w D A n xs) (hd : ∀ b, D b → D' b) (hk : ∀ b, D b → w'.heap[b]? = w.heap[b]?) : Lie w' D' A n xs :=
  ⟨h.1, fun i hi => by
    obtain ⟨b, off, e, hb, hc⟩ := h.2 i hi
    exact ⟨b, off, e, hd b hb, (World.cell?_of_block (w := w) (hk b hb)).trans hc⟩⟩

theorem Lie.bytes {w : World} {D : Nat → Prop} {B : Nat} {A : Option Addr} {n : Nat} {xs : List UInt8} (h : Lie w D A n xs) (hd : ∀ b, D b → b < B) : Bytes w B A n xs :=
  ⟨h.1, fun i hi => by
    obtain ⟨b, off, e, hb, hc⟩ := h.2 i hi
    exact ⟨b, off, e, hd b hb, hc⟩⟩

theorem Lie.of_span {w : World} {lo B : Nat} {A : Option Addr} {n : Nat} {xs : List UInt8} (h : Span w lo B A n xs) : Lie w (fun b => lo ≤ b ∧ b < B) A n xs :=
  ⟨h.1, fun i hi => by
    obtain ⟨b, off, e, h1, h2, hc⟩ := h.2 i hi
    exact ⟨b, off, e, ⟨h1, h2⟩, hc⟩⟩

theorem Lie.of_own {w : World} {base : Nat} {e : TypeId} {v : Value} {xs : List UInt8} (h : Own w base e v xs) : ∃ A c, v = .slice A xs.length c ∧ xs.length ≤ c ∧ c ≤ maxLen ∧ Lie w (fun b => base ≤ b ∧ b < w.heap.size) A xs.length xs := by
  obtain ⟨A, c, hv, h1, h2, hs⟩ := h.span
  exact ⟨A, c, hv, h1, h2, Lie.of_span hs⟩

end Go.Proofs.Ytkpneckgpolaoaa
