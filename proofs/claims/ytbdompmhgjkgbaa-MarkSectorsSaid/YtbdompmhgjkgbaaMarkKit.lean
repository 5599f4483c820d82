/-
  What every law of layer 6 needs: the small call that each of them makes first.
-/
import Derived.Test.YtbdompmhgjkgbaaMarkRead
import Derived.Test.YtbdompmhgjkgbaaLawKit
import Derived.Test.YtbdompmhgjkgbaaStructs
namespace Go.Proofs.Ytbdompmhgjkgbaa.MarkPkg
open Go.RowKit Go.ChangeShapes Go.WideShapes Go.Proofs.Ytbdompmhgjkgbaa.OobPkg
set_option maxRecDepth 4000

theorem bytes_cell {w : World} {B : Nat} {A : Option Addr} {n : Nat} {xs : List UInt8} (h : Bytes w B A n xs) {b off : Nat} (hA : A = some ⟨b, off, none⟩) {k : Nat} {x : UInt8} (hx : xs[k]? = some x) : w.cell? ⟨b, off + k, none⟩ = some (.int .u8 (x.toNat : Int)) := by
  obtain ⟨hl, rfl⟩ := List.getElem?_eq_some_iff.1 hx
  obtain ⟨b2, off2, e, _, hc⟩ := h.2 k hl
  rw [hA] at e
  injection e with e
  injection e with e1 e2
  subst e1 e2
  exact hc

theorem str_neq (xs : List UInt8) : ((str xs).toList != (str xs).toList) = false := by simp

theorem awake_any (w : World) :
    Calls Try.prog 8 #[] w fun e w' => e = .returned (.bool true) ∧ Below w.heap.size w w' := by
  have HOK := Lib.hid (show Mark.Ok 3 9 1 by unfold Mark.Ok; omega)
  go_enter Try.func8, Try.ntmps8
  go_wp2_with fail
  refine (Sector_ok HOK.out w).mono ?_
  rintro e w2 ⟨A2, rfl, hr2, hb2⟩
  obtain ⟨b, off, x, rfl, _⟩ := hr2.at_ (show 0 < 16 by omega)
  have h0 := bytes_cell hr2 rfl (k := 0) (x := 72) rfl
  have h3 := bytes_cell hr2 rfl (k := 3) (x := 67) rfl
  have h4 := bytes_cell hr2 rfl (k := 4) (x := 9) rfl
  rw [Nat.add_zero] at h0
  have HB2 := Lib.hid hb2
  clear hr2 hb2
  go_wp2
  go_ret
  exact ⟨rfl, HB2.out⟩

end Go.Proofs.Ytbdompmhgjkgbaa.MarkPkg
