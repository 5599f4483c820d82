/-
  What every law of layer 5 needs: the small call that each of them makes first.
-/
import Derived.Test.YtmngleepfcndgaaOobUnpack
import Derived.Test.YtmngleepfcndgaaLawKit
import Derived.Test.YtmngleepfcndgaaStructs
namespace Go.Proofs.Ytmngleepfcndgaa.OobPkg
open Go.RowKit Go.ChangeShapes Go.WideShapes
set_option maxRecDepth 4000

theorem Bytes.cellAt {w : World} {B : Nat} {A : Option Addr} {n : Nat} {xs : List UInt8} (h : Bytes w B A n xs) {b off : Nat} (hA : A = some ⟨b, off, none⟩) {k : Nat} {x : UInt8} (hx : xs[k]? = some x) : w.cell? ⟨b, off + k, none⟩ = some (.int .u8 (x.toNat : Int)) := by
  obtain ⟨hl, rfl⟩ := List.getElem?_eq_some_iff.1 hx
  obtain ⟨b2, off2, e, _, hc⟩ := h.2 k hl
  rw [hA] at e
  injection e with e
  injection e with e1 e2
  subst e1 e2
  exact hc

theorem Tri.c0 {w : World} {g : Nat} {k l s : Int} (h : Tri w g k l s) : w.cell? ⟨g, 0, none⟩ = some (.int .i64 k) := by simp [World.cell?, show w.heap[g]? = _ from h]
theorem Tri.c1 {w : World} {g : Nat} {k l s : Int} (h : Tri w g k l s) : w.cell? ⟨g, 1, none⟩ = some (.int .i64 l) := by simp [World.cell?, show w.heap[g]? = _ from h]
theorem Tri.c2 {w : World} {g : Nat} {k l s : Int} (h : Tri w g k l s) : w.cell? ⟨g, 2, none⟩ = some (.int .i64 s) := by simp [World.cell?, show w.heap[g]? = _ from h]
theorem Tri.old {w : World} {g : Nat} {k l s : Int} (h : Tri w g k l s) (o : Obj) : Tri (w.alloc o) g k l s := h.keep ((Below.refl _ _).alloc (Nat.le_refl _) _)
theorem Tri.newAt {w : World} {g : Nat} (hg : w.heap.size = g) (k l s : Int) : Tri (w.alloc (.cells #[.int .i64 k, .int .i64 l, .int .i64 s] 23)) g k l s := by rw [← hg]; exact Tri.new w k l s

theorem newer_yes (k l s k' l' s' : Int) (h : s' < s) (w : World) :
    Calls Try.prog 17 #[oob k l s, oob k' l' s'] w fun e w' => e = .returned (.bool true) ∧ Below w.heap.size w w' := by
  have := newer_any k l s k' l' s' w
  rwa [decide_eq_true h] at this

theorem newer_no (k l s k' l' s' : Int) (h : ¬ s' < s) (w : World) :
    Calls Try.prog 17 #[oob k l s, oob k' l' s'] w fun e w' => e = .returned (.bool false) ∧ Below w.heap.size w w' := by
  have := newer_any k l s k' l' s' w
  rwa [decide_eq_false h] at this

set_option maxHeartbeats 400000 in
theorem awake_any (w : World) :
    Calls Try.prog 10 #[] w fun e w' => e = .returned (.bool true) ∧ Below w.heap.size w w' := by
  have hmk : (Instr.makeSlice 24 (.int .i64 16) (.int .i64 16)).run Try.prog w = _ := run_make_bytes w 24 5 Try.underlying24 info8 .i64 .i64 16 (by omega)
  have hown := own_made w 5 16 (by decide)
  have HB1 := Lib.hid ((Below.refl w.heap.size w).alloc (Nat.le_refl _) (.cells ((List.replicate 16 (0 : UInt8)).map cellOf).toArray 5))
  generalize w.alloc (.cells ((List.replicate 16 (0 : UInt8)).map cellOf).toArray 5) = w1 at hmk hown HB1
  obtain ⟨A1, c1, hv, hr1⟩ := hown.reads
  simp only [List.length_replicate] at hv hr1
  injection hv with hv1 hv2 hv3
  subst hv1
  have HR1 := Lib.hid hr1
  obtain ⟨d, hd⟩ : ∃ d, d = List.replicate 16 (0 : UInt8) := ⟨_, rfl⟩
  rw [← hd] at HR1
  have hok : Oob.Ok 1 258 1 := by unfold Oob.Ok; omega
  have HOK := Lib.hid hok
  clear hown hr1 hd hv2 hv3 hok
  go_enter Try.func10, Try.ntmps10
  go_wp2_with fail
  refine (Pack_ok 1 258 1 _ 16 d w1 HOK.out HR1.out).mono ?_
  rintro e w2 ⟨A2, rfl, hr2, hb2⟩
  obtain ⟨b, off, x, rfl, _⟩ := hr2.at_ (show 0 < 17 by omega)
  have h0 := Bytes.cellAt hr2 rfl (k := 0) (x := 1) rfl
  have h1 := Bytes.cellAt hr2 rfl (k := 1) (x := 2) rfl
  have h2 := Bytes.cellAt hr2 rfl (k := 2) (x := 1) rfl
  have h5 := Bytes.cellAt hr2 rfl (k := 5) (x := 1) rfl
  rw [Nat.add_zero] at h0
  have HB2 := Lib.hid (below_on HB1.out hb2)
  clear hr2 hb2 hmk
  go_wp2
  go_ret
  exact ⟨rfl, HB2.out⟩

end Go.Proofs.Ytmngleepfcndgaa.OobPkg
