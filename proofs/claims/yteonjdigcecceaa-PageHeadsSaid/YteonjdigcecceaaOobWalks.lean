/-
  What each function of package oob does: one contract a function, over the mathematics of OobMath. The first part: those without arrays.
-/
import Derived.Test.YteonjdigcecceaaOobRight
import Derived.Test.YteonjdigcecceaaCrcWalks
namespace Go.Proofs.Yteonjdigcecceaa.OobPkg
open Go.RowKit Go.ChangeShapes Go.WideShapes
set_option maxRecDepth 4000

theorem isSector_any (A : Option Addr) (n c : Nat) (w : World) :
    Calls Try.prog 34 #[.slice A n c] w fun e w' => e = .returned (.bool (decide (n = 16))) ∧ w' = w := by
  have H := Lib.hid (show ((n : Int) == 16) = decide (n = 16) by rw [Bool.eq_iff_iff]; simp; omega)
  go_enter Try.func34, Try.ntmps34
  go_wp2
  go_ret
  refine ⟨?_, rfl⟩
  show Ending.returned (.bool ((n : Int) == 16)) = _
  rw [H.out]

theorem over_all {b : List UInt8} (h : b.length = 17) : over (List.replicate 17 0) 0 b = b := by
  simp [over, h]

/-- The twenty-nine bytes, laid part by part. -/
theorem front_over (k l s : Int) (d : List UInt8) (hd : d.length = 16) :
    over (over (over (over (UInt8.ofNat k.toNat :: List.replicate 28 0) 1 (Wire.fx l.toNat)) 5 (Wire.fx (s % 4294967296).toNat)) 9 (Wire.fx (s / 4294967296).toNat)) 13 d = Oob.front k l s ++ d := by
  simp [over, hd, Wire.fx, Oob.front, List.replicate]

/-- The seventeen bytes, laid part by part. -/
theorem full_over (k l s : Int) (d : List UInt8) : over (over (List.replicate 17 0) 0 ((Oob.front k l s ++ d).take 13)) 13 (Wire.fx (Oob.sumN (Oob.front k l s ++ d))) = Oob.full k l s d := by
  have e : (Oob.front k l s ++ d).take 13 = Oob.front k l s := by
    rw [List.take_append_of_le_length (by rw [Oob.front_len]; omega)]
    exact List.take_of_length_le (by rw [Oob.front_len]; omega)
  rw [e]
  unfold Oob.full
  generalize Oob.sumN (Oob.front k l s ++ d) = n
  have hf := Oob.front_len k l s
  generalize Oob.front k l s = f at hf
  simp [over, hf, fx_len, List.replicate]

theorem sum_arr {w : World} {M : Nat} {t : TypeId} {m : List UInt8} (h : Arr w M t m) (hl : m.length = 29) :
    Calls Try.prog 53 #[.slice (some ⟨M, 0, none⟩) 29 29] w fun e w' => e = .returned (.int .u32 (Oob.sumN m : Int)) ∧ w' = w := by
  have hb := h.bytes 0
  rw [hl] at hb
  refine (sum_any (some ⟨M, 0, none⟩) 29 29 w.heap.size m w (by decide) hb).mono ?_
  rintro e w' ⟨rfl, rfl⟩
  exact ⟨rfl, rfl⟩

end Go.Proofs.Yteonjdigcecceaa.OobPkg
