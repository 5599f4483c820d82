/-
  A struct of a slice of bytes and a count, in a block of its own: what its cells hold, and what keeps it. Nothing of the program's code is named here.
-/
import Derived.Test.YtkpneckgpolaoaaMade
namespace Go.Proofs.Ytkpneckgpolaoaa
open Go.RowKit Go.WideShapes

/-- A slice that reads as a list of bytes and lies in blocks from lo on, below B (nil let in). -/
def Span (w : World) (lo B : Nat) (A : Option Addr) (n : Nat) (xs : List UInt8) : Prop :=
  xs.length = n ∧ ∀ i (h : i < xs.length), ∃ b off, A = some ⟨b, off, none⟩ ∧ lo ≤ b ∧ b < B ∧ w.cell? ⟨b, off + i, none⟩ = some (.int .u8 ((xs[i]).toNat : Int))

section
variable {w w' : World} {lo B g : Nat} {A : Option Addr} {n : Nat} {xs : List UInt8} {t : TypeId} {k : Int}

theorem Span.bytes (h : Span w lo B A n xs) : Bytes w B A n xs :=
  ⟨h.1, fun i hi => by
    obtain ⟨b, off, e, _, hb, hc⟩ := h.2 i hi
    exact ⟨b, off, e, hb, hc⟩⟩

theorem Span.keep (h : Span w lo B A n xs) (hk : ∀ b, lo ≤ b → b < B → w'.heap[b]? = w.heap[b]?) : Span w' lo B A n xs :=
  ⟨h.1, fun i hi => by
    obtain ⟨b, off, e, hl, hb, hc⟩ := h.2 i hi
    exact ⟨b, off, e, hl, hb, (World.cell?_of_block (w := w) (hk b hl hb)).trans hc⟩⟩

theorem Span.nil (w : World) (lo B : Nat) (A : Option Addr) : Span w lo B A 0 [] := ⟨rfl, fun i hi => absurd hi (by simp)⟩

theorem Own.span {base : Nat} {e : TypeId} {v : Value} (h : Own w base e v xs) :
    ∃ A c, v = .slice A xs.length c ∧ xs.length ≤ c ∧ c ≤ maxLen ∧ Span w base w.heap.size A xs.length xs := by
  obtain ⟨A, c, hv, h1, h2, hr⟩ := h.readsc
  refine ⟨A, c, hv, h1, h2, rfl, fun i hi => ?_⟩
  obtain ⟨b, off, e1, hb, hc⟩ := hr.2 i hi
  refine ⟨b, off, e1, ?_, hb, hc⟩
  obtain ⟨g, cap, hv2, hg, _⟩ := h.form (by omega)
  rw [hv, e1] at hv2
  injection hv2 with h3
  injection h3 with h3
  injection h3 with h3
  omega

/-- Block g holds a struct, of type t, of a slice of bytes and a count; the bytes lie in blocks from lo on, below g. -/
def Bag (t : TypeId) (w : World) (lo g : Nat) (xs : List UInt8) (k : Int) : Prop :=
  ∃ A n c, w.heap[g]? = some (.cells #[.slice A n c, .int .i64 k] t (0, 0)) ∧ n ≤ c ∧ c ≤ maxLen ∧ Span w lo g A n xs

theorem Bag.lt (h : Bag t w lo g xs k) : g < w.heap.size := by
  obtain ⟨A, n, c, h, _⟩ := h
  exact (Array.getElem?_eq_some_iff.1 h).1

theorem Bag.keep (h : Bag t w lo g xs k) (hk : ∀ b, lo ≤ b → b ≤ g → w'.heap[b]? = w.heap[b]?) (hlo : lo ≤ g) : Bag t w' lo g xs k := by
  obtain ⟨A, n, c, h1, h2, h3, h4⟩ := h
  exact ⟨A, n, c, (hk g hlo (Nat.le_refl _)).trans h1, h2, h3, h4.keep fun b hl hb => hk b hl (Nat.le_of_lt hb)⟩

/-- Under a change of old memory nowhere. -/
theorem Bag.below (h : Bag t w lo g xs k) (hb : Below w.heap.size w w') (hlo : lo ≤ g) : Bag t w' lo g xs k :=
  h.keep (fun b _ hb2 => hb.block b (Nat.lt_of_le_of_lt hb2 h.lt)) hlo

/-- Under a change of one other block. -/
theorem Bag.grown {row : Nat} (h : Bag t w lo g xs k) (hg : w.grownBy w' (some row)) (hlo : lo ≤ g) (hr : row < lo ∨ g < row) : Bag t w' lo g xs k :=
  h.keep (fun b hl hb2 => hg.block b (Nat.lt_of_le_of_lt hb2 h.lt) (by intro e; injection e; omega)) hlo

theorem Bag.drew (h : Bag t w lo g xs k) : Bag t w.drew lo g xs k := h

/-- A new one. -/
theorem Bag.new {c : Nat} (hnc : n ≤ c) (hcm : c ≤ maxLen) (h : Span w lo w.heap.size A n xs) (k : Int) : Bag t (w.alloc (.cells #[.slice A n c, .int .i64 k] t)) lo w.heap.size xs k :=
  ⟨A, n, c, heap_alloc_new w _, hnc, hcm, h.keep fun b _ hb => Below.heap_alloc w _ b hb⟩

theorem below_of_grown {B row : Nat} {a : World} (h : Below B a w) (hg : w.grownBy w' (some row)) (hB : B ≤ w.heap.size) (hr : B ≤ row) : Below B a w' :=
  h.grown hg hB (fun j e => by injection e; omega)

/-- Its cells, and its cells anew. -/
theorem cells2_0 {t : TypeId} {w : World} {g : Nat} {u v : Value} (h : w.heap[g]? = some (.cells #[u, v] t (0, 0))) : w.cell? ⟨g, 0, none⟩ = some u ∧ w.frozen? ⟨g, 0, none⟩ = false := by
  simp [World.cell?, World.frozen?, h]
theorem cells2_1 {t : TypeId} {w : World} {g : Nat} {u v : Value} (h : w.heap[g]? = some (.cells #[u, v] t (0, 0))) : w.cell? ⟨g, 1, none⟩ = some v ∧ w.frozen? ⟨g, 1, none⟩ = false := by
  simp [World.cell?, World.frozen?, h]
theorem cells2_set0 {t : TypeId} {w : World} {g : Nat} {u v : Value} (h : w.heap[g]? = some (.cells #[u, v] t (0, 0))) (x : Value) : (w.setCell ⟨g, 0, none⟩ x).heap[g]? = some (.cells #[x, v] t (0, 0)) := by
  simp [World.setCell, Array.getElem?_modify, h]
theorem cells2_set1 {t : TypeId} {w : World} {g : Nat} {u v : Value} (h : w.heap[g]? = some (.cells #[u, v] t (0, 0))) (x : Value) : (w.setCell ⟨g, 1, none⟩ x).heap[g]? = some (.cells #[u, x] t (0, 0)) := by
  simp [World.setCell, Array.getElem?_modify, h]
theorem grown_setCell (w : World) (a : Addr) (x : Value) : w.grownBy (w.setCell a x) (some a.block) :=
  ⟨rfl, rfl, rfl, by simp [World.setCell], fun k _ hk => Below.heap_setCell _ _ _ _ (fun e => hk (by rw [e]))⟩
theorem at_wld {P : Program} {c : Code} {Q : Exit → Act → World → Prop} {a : Act} {W : World} (h : ∀ X, X = W → Code.wp P c Q a X) : Code.wp P c Q a W := h W rfl
end

end Go.Proofs.Ytkpneckgpolaoaa
