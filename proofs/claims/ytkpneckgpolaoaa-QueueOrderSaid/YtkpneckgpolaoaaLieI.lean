/-
  A slice of ints that lies in blocks of a set. Nothing of the program's code is named here.
-/
import Derived.Test.YtkpneckgpolaoaaIntsOwn
import Derived.Test.YtkpneckgpolaoaaIntsMore
import Derived.Test.YtkpneckgpolaoaaBag
namespace Go.Proofs.Ytkpneckgpolaoaa
open Go.RowKit

/-- The slice of n ints at A (nil let in) lies in blocks of D and reads as zs. -/
def LieI (w : World) (D : Nat → Prop) (A : Option Addr) (n : Nat) (zs : List Int) : Prop :=
  zs.length = n ∧ ∀ i (h : i < zs.length), -9223372036854775808 ≤ zs[i] ∧ zs[i] ≤ 9223372036854775807 ∧ ∃ b off, A = some ⟨b, off, none⟩ ∧ D b ∧ w.cell? ⟨b, off + i, none⟩ = some (.int .i64 zs[i])

theorem LieI.keep {w w' : World} {D D' : Nat → Prop} {A : Option Addr} {n : Nat} {zs : List Int} (h : LieI w D A n zs) (hd : ∀ b, D b → D' b) (hk : ∀ b, D b → w'.heap[b]? = w.heap[b]?) : LieI w' D' A n zs :=
  ⟨h.1, fun i hi => by
    obtain ⟨h1, h2, b, off, e, hb, hc⟩ := h.2 i hi
    exact ⟨h1, h2, b, off, e, hd b hb, (World.cell?_of_block (w := w) (hk b hb)).trans hc⟩⟩

theorem LieI.nums {w : World} {D : Nat → Prop} {B : Nat} {A : Option Addr} {n : Nat} {zs : List Int} (h : LieI w D A n zs) (hd : ∀ b, D b → b < B) : Nums w B A n zs :=
  ⟨h.1, fun i hi => by
    obtain ⟨h1, h2, b, off, e, hb, hc⟩ := h.2 i hi
    exact ⟨h1, h2, b, off, e, hd b hb, hc⟩⟩

/-- The bounds of ints. -/
def In64 (zs : List Int) : Prop := ∀ z ∈ zs, -9223372036854775808 ≤ z ∧ z ≤ 9223372036854775807

theorem Nums.in64 {w : World} {B : Nat} {A : Option Addr} {n : Nat} {zs : List Int} (h : Nums w B A n zs) : In64 zs := fun z hz => by
  obtain ⟨i, hi⟩ := List.getElem?_of_mem hz
  obtain ⟨hl, rfl⟩ := List.getElem?_eq_some_iff.1 hi
  exact ⟨(h.2 i hl).1, (h.2 i hl).2.1⟩

theorem LieI.in64 {w : World} {D : Nat → Prop} {A : Option Addr} {n : Nat} {zs : List Int} (h : LieI w D A n zs) : In64 zs := fun z hz => by
  obtain ⟨i, hi⟩ := List.getElem?_of_mem hz
  obtain ⟨hl, rfl⟩ := List.getElem?_eq_some_iff.1 hi
  exact ⟨(h.2 i hl).1, (h.2 i hl).2.1⟩

theorem LieI.of_own {w : World} {base : Nat} {e : TypeId} {v : Value} {zs : List Int} (h : OwnI w base e v zs) (hz : In64 zs) : ∃ A c, v = .slice A zs.length c ∧ zs.length ≤ c ∧ c ≤ maxLen ∧ LieI w (fun b => base ≤ b ∧ b < w.heap.size) A zs.length zs := by
  obtain ⟨A, c, hv, h1, h2, hr⟩ := h.reads hz
  refine ⟨A, c, hv, h1, h2, rfl, fun i hi => ?_⟩
  obtain ⟨h3, h4, b, off, e1, hb, hc⟩ := hr.2 i hi
  have hk : v.ownBlock = some b := by rw [hv, e1]; rfl
  exact ⟨h3, h4, b, off, e1, ⟨h.block b hk, hb⟩, hc⟩

/-- A slice's value and its ints, of no more than so many, in blocks of D. -/
def DatI (w : World) (D : Nat → Prop) (v : Value) (zs : List Int) : Prop := ∃ A c, v = .slice A zs.length c ∧ zs.length ≤ c ∧ c ≤ maxLen ∧ zs.length ≤ 1000000000 ∧ LieI w D A zs.length zs

theorem DatI.keep {w w' : World} {D D' : Nat → Prop} {v : Value} {zs : List Int} (h : DatI w D v zs) (hd : ∀ b, D b → D' b) (hk : ∀ b, D b → w'.heap[b]? = w.heap[b]?) : DatI w' D' v zs := by
  obtain ⟨A, c, h1, h2, h3, h4, h5⟩ := h
  exact ⟨A, c, h1, h2, h3, h4, h5.keep hd hk⟩

theorem DatI.of_own {w : World} {base : Nat} {e : TypeId} {v : Value} {zs : List Int} (h : OwnI w base e v zs) (hz : In64 zs) (hl : zs.length ≤ 1000000000) : DatI w (fun b => base ≤ b ∧ b < w.heap.size) v zs := by
  obtain ⟨A, c, h1, h2, h3, h4⟩ := LieI.of_own h hz
  exact ⟨A, c, h1, h2, h3, hl, h4⟩

end Go.Proofs.Ytkpneckgpolaoaa
