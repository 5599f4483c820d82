/-
  Slices of ints in memory that came in: one that reads as a list of numbers (nil let in). Nothing of the program's code is named here.
-/
import Derived.Test.YtkpneckgpolaoaaBytes
namespace Go.Proofs.Ytkpneckgpolaoaa
open Go.RowKit Go.ChangeShapes Go.WideShapes

/-- A slice that reads as a list of ints and lies below block B (nil let in). -/
def Nums (w : World) (B : Nat) (A : Option Addr) (n : Nat) (zs : List Int) : Prop :=
  zs.length = n ∧ ∀ i (h : i < zs.length), -9223372036854775808 ≤ zs[i] ∧ zs[i] ≤ 9223372036854775807 ∧ ∃ b off, A = some ⟨b, off, none⟩ ∧ b < B ∧ w.cell? ⟨b, off + i, none⟩ = some (.int .i64 zs[i])

theorem Nums.at_ {w : World} {B : Nat} {A : Option Addr} {n : Nat} {zs : List Int} (h : Nums w B A n zs) {k : Nat} (hk : k < n) :
    ∃ (b off : Nat) (z : Int), A = some ⟨b, off, none⟩ ∧ b < B ∧ zs[k]? = some z ∧ w.cell? ⟨b, off + k, none⟩ = some (.int .i64 z) ∧ -9223372036854775808 ≤ z ∧ z ≤ 9223372036854775807 := by
  have hl : k < zs.length := by rw [h.1]; exact hk
  obtain ⟨h1, h2, b, off, e, hb, hc⟩ := h.2 k hl
  exact ⟨b, off, zs[k], e, hb, List.getElem?_eq_getElem hl, hc, h1, h2⟩

theorem nums_keep {w w' : World} {B : Nat} {A : Option Addr} {n : Nat} {zs : List Int} (h : Nums w B A n zs) (hk : Below B w w') : Nums w' B A n zs :=
  ⟨h.1, fun i hi => by
    obtain ⟨h1, h2, b, off, e, hb, hc⟩ := h.2 i hi
    exact ⟨h1, h2, b, off, e, hb, (hk.cell (p := ⟨b, off + i, none⟩) hb).trans hc⟩⟩

theorem nums_more {w : World} {B B' : Nat} {A : Option Addr} {n : Nat} {zs : List Int} (h : Nums w B A n zs) (hB : B ≤ B') : Nums w B' A n zs :=
  ⟨h.1, fun i hi => by
    obtain ⟨h1, h2, b, off, e, hb, hc⟩ := h.2 i hi
    exact ⟨h1, h2, b, off, e, by omega, hc⟩⟩

theorem open_nums {H : Type} {enc : TypeId × Value → H} {P : Program} {W : World} {base : Nat} {t e : TypeId} {v : Value} {d : DataW H} {ps : List MemPlace} (ht : P.underlying t = some (.slice e)) (he : P.underlying e = some (.int .i64)) (hc : P.cellsOf e = 1)
    (hv : Value.okWide P W .any base t v) (h : DataW.Trod enc P W 0 (fun _ => true) true t v d ps) :
    ∃ A n c zs, v = .slice A n c ∧ n ≤ c ∧ c ≤ maxLen ∧ Nums W W.heap.size A n zs := by
  obtain ⟨a0, len, cap, rfl⟩ := okWide_slice ht hv
  obtain ⟨fuel, hf⟩ := h
  rcases open_ints ht he hc hf with ⟨hcs, _⟩ | ⟨a, len', cap', zs, hcs, _, hl, hm, hz, _, hcell, hwz⟩
  · simp [Value.cells] at hcs
    obtain ⟨rfl, rfl, rfl⟩ := hcs
    exact ⟨_, _, _, [], rfl, Nat.le_refl _, Nat.zero_le _, rfl, fun i hi => absurd hi (by simp)⟩
  · simp [Value.cells] at hcs
    obtain ⟨rfl, rfl, rfl⟩ := hcs
    simp only [if_true] at hz
    refine ⟨_, _, _, zs.take len, rfl, hl, hm, by simp; omega, fun i hi => ?_⟩
    simp only [List.length_take] at hi
    have hi2 : i < zs.length := by omega
    have hci := hcell i hi2
    obtain ⟨b, off, spot⟩ := a
    have hspot : spot = none := by simpa [Addr.add] using World.cell?_spot (hcell 0 (by omega))
    subst hspot
    rw [add_plain] at hci
    have hw := hwz zs[i] (List.getElem_mem hi2)
    have hbd : -9223372036854775808 ≤ zs[i] ∧ zs[i] ≤ 9223372036854775807 := by simpa [Lit.wf, IntKind.min, IntKind.max, IntKind.signed, IntKind.bits] using hw
    have hg : zs.getD i 0 = zs[i] := by simp [List.getD, hi2]
    simp only [List.getElem_take]
    exact ⟨hbd.1, hbd.2, b, off, rfl, cell_lt hci, by rw [hci, hg]⟩

/-- A part of a slice of bytes: from k on, m of them. -/
theorem bytes_part {w : World} {B : Nat} {A : Option Addr} {n : Nat} {xs : List UInt8} (h : Bytes w B A n xs) {k m cap : Nat} (hk : k + m ≤ n) (hn : n ≤ cap) :
    Bytes w B (if cap = k then A else A.map (·.add k)) m ((xs.drop k).take m) := by
  have hl := h.1
  refine ⟨by simp; omega, fun i hi => ?_⟩
  simp at hi
  obtain ⟨b, off, e, hb, hc⟩ := h.2 (k + i) (by omega)
  subst e
  rw [if_neg (by omega)]
  refine ⟨b, off + k, by simp [add_plain], hb, ?_⟩
  rw [show off + k + i = off + (k + i) by omega, hc]
  simp
end Go.Proofs.Ytkpneckgpolaoaa
