/-
  What every law of layer 1 needs: the small call that each of them makes first; an argument that is a slice of bytes, opened.
-/
import Derived.Test.YticfhgdmmhpbdaaCrcRef
import Derived.Test.YticfhgdmmhpbdaaLawKit
import Derived.Lib.SlBytesConst
namespace Go.Proofs.Yticfhgdmmhpbdaa
open Go.RowKit Go.ChangeShapes Go.WideShapes

theorem nine_sum : addI 0 [49, 50, 51, 52, 53, 54, 55, 56, 57] = 3421780262 := by decide +kernel

theorem bytes_new (w : World) (xs : List UInt8) (cs : Array Value) (e : TypeId) (fr : Nat × Nat) (h : cs = (xs.map fun x => Value.int .u8 (x.toNat : Int)).toArray) :
    Bytes (w.alloc (.cells cs e fr)) (w.heap.size + 1) (some ⟨w.heap.size, 0, none⟩) xs.length xs := by
  subst h
  refine ⟨rfl, fun i hi => ⟨w.heap.size, 0, rfl, Nat.lt_succ_self _, ?_⟩⟩
  rw [World.cell?_alloc_mark]
  simp [hi]

theorem bytes_keep {w w' : World} {B : Nat} {A : Option Addr} {n : Nat} {xs : List UInt8} (h : Bytes w B A n xs) (hk : Below B w w') : Bytes w' B A n xs :=
  ⟨h.1, fun i hi => by
    obtain ⟨b, off, e, hb, hc⟩ := h.2 i hi
    exact ⟨b, off, e, hb, (hk.cell (p := ⟨b, off + i, none⟩) hb).trans hc⟩⟩

theorem bytes_more {w : World} {B B' : Nat} {A : Option Addr} {n : Nat} {xs : List UInt8} (h : Bytes w B A n xs) (hB : B ≤ B') : Bytes w B' A n xs :=
  ⟨h.1, fun i hi => by
    obtain ⟨b, off, e, hb, hc⟩ := h.2 i hi
    exact ⟨b, off, e, by omega, hc⟩⟩

set_option maxHeartbeats 400000 in
theorem awake_any (w : World) :
    Calls Try.prog 10 #[] w fun e w' => e = .returned (.bool true) ∧ Below w.heap.size w w' := by
  have kc := fun (w : World) (C : Array Value) (n c : Nat) => Lib.run_convert_bytes_const (P := Try.prog) w 22 5 C n c Try.underlying22 Try.underlying5
  go_enter Try.func10, Try.ntmps10
  go_wp2_with fail
  clear kc
  refine (sum_any _ _ _ (w.heap.size + 1) [49, 50, 51, 52, 53, 54, 55, 56, 57] _ (by decide) (bytes_new w _ _ _ _ rfl)).mono ?_
  rintro e w' ⟨rfl, rfl⟩
  rw [nine_sum]
  go_wp2
  go_ret
  exact ⟨rfl, (Below.refl _ _).alloc (Nat.le_refl _) _⟩

section
variable {H : Type} {enc : TypeId × Value → H}
theorem cell_lt {w : World} {a : Addr} {v : Value} (h : w.cell? a = some v) : a.block < w.heap.size := by
  rcases Nat.lt_or_ge a.block w.heap.size with h' | h'
  · exact h'
  · simp [World.cell?, Array.getElem?_eq_none h'] at h

theorem u8_of {z : Int} (h : (Lit.int .u8 z).wf = true) : (((u8 z).toNat : Nat) : Int) = z := by
  have := (show 0 ≤ z ∧ z ≤ 255 by simpa [Lit.wf, IntKind.min, IntKind.max, IntKind.signed, IntKind.bits] using h)
  unfold u8
  simp
  omega

/-- A slice of bytes that came in. -/
theorem open_bytes {P : Program} {W : World} {base : Nat} {t e : TypeId} {v : Value} {d : DataW H} {ps : List MemPlace} (ht : P.underlying t = some (.slice e)) (he : P.underlying e = some (.int .u8)) (hc : P.cellsOf e = 1)
    (hv : Value.okWide P W .any base t v) (h : DataW.Trod enc P W 0 (fun _ => true) true t v d ps) :
    ∃ A n c xs, v = .slice A n c ∧ n ≤ c ∧ c ≤ maxLen ∧ Bytes W W.heap.size A n xs := by
  obtain ⟨a0, len, cap, rfl⟩ := okWide_slice ht hv
  obtain ⟨fuel, hf⟩ := h
  rcases open_ints ht he hc hf with ⟨hcs, _⟩ | ⟨a, len', cap', zs, hcs, _, hl, hm, hz, _, hcell, hwz⟩
  · simp [Value.cells] at hcs
    obtain ⟨rfl, rfl, rfl⟩ := hcs
    exact ⟨_, _, _, [], rfl, Nat.le_refl _, Nat.zero_le _, rfl, fun i hi => absurd hi (by simp)⟩
  · simp [Value.cells] at hcs
    obtain ⟨rfl, rfl, rfl⟩ := hcs
    simp only [if_true] at hz
    refine ⟨_, _, _, (zs.take len).map u8, rfl, hl, hm, by simp; omega, fun i hi => ?_⟩
    simp only [List.length_map, List.length_take] at hi
    have hi2 : i < zs.length := by omega
    have hci := hcell i hi2
    obtain ⟨b, off, spot⟩ := a
    have hspot : spot = none := by simpa [Addr.add] using World.cell?_spot (hcell 0 (by omega))
    subst hspot
    rw [add_plain] at hci
    refine ⟨b, off, rfl, cell_lt hci, ?_⟩
    rw [hci]
    have hg : zs.getD i 0 = zs[i] := by simp [List.getD, hi2]
    have hw := hwz zs[i] (List.getElem_mem hi2)
    rw [hg]
    simp only [List.getElem_map, List.getElem_take]
    rw [u8_of hw]
end
end Go.Proofs.Yticfhgdmmhpbdaa
