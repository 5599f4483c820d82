/-
  What each function of package mark does, the last part: Read.
-/
import Derived.Test.YteonjdigcecceaaMarkSector
import Derived.Test.YteonjdigcecceaaArrEq
namespace Go.Proofs.Yteonjdigcecceaa.MarkPkg
open Go.RowKit Go.Proofs.Yteonjdigcecceaa.OobPkg
set_option maxRecDepth 4000

/-- The stamp as the program puts it together. -/
def stampI (b : List UInt8) : Int := bits .or .i64 (IntKind.i64.wrap (Mark.highOf b * 4294967296)) (Mark.lowOf b)

theorem stamp_wrap (b : List UInt8) : stampI b = IntKind.i64.wrap (Mark.stampOf b) := by
  have hh := Mark.high_bd b
  have hl := Mark.low_bd b
  obtain ⟨h, hhe⟩ := Int.eq_ofNat_of_zero_le hh.1
  obtain ⟨l, hle⟩ := Int.eq_ofNat_of_zero_le hl.1
  unfold stampI Mark.stampOf
  rw [hhe, hle]
  rw [hhe] at hh
  rw [hle] at hl
  have e1 : BitVec.ofInt 64 (IntKind.i64.wrap ((h : Int) * 4294967296)) = BitVec.ofNat 64 (h * 4294967296) := by
    apply BitVec.eq_of_toNat_eq
    rw [BitVec.toNat_ofInt, BitVec.toNat_ofNat, IntKind.wrap_i64]
    omega
  show IntKind.i64.wrap ((BitVec.ofInt 64 (IntKind.i64.wrap ((h : Int) * 4294967296)) ||| BitVec.ofInt 64 (l : Int)).toNat : Int) = _
  rw [BitVec.toNat_or, e1, ofInt_u64 l (by omega), BitVec.toNat_ofNat]
  congr 1
  have e2 : h * 4294967296 % 2 ^ 64 = h <<< 32 := by rw [Nat.shiftLeft_eq]; omega
  rw [e2, ← Nat.shiftLeft_add_eq_or_of_lt (show l < 2 ^ 32 by omega), Nat.shiftLeft_eq]
  omega

theorem ok_iff (b : List UInt8) (k l : Int) : Mark.Ok k l (stampI b) ↔ Mark.Ok k l (Mark.stampOf b) := by
  have hh := Mark.high_bd b
  have hl := Mark.low_bd b
  have e := stamp_wrap b
  rw [IntKind.wrap_i64] at e
  unfold Mark.Ok
  unfold Mark.stampOf at *
  omega

theorem stamp_is (b : List UInt8) (k l : Int) (h : Mark.Ok k l (Mark.stampOf b)) : stampI b = Mark.stampOf b := by
  have hh := Mark.high_bd b
  have hl := Mark.low_bd b
  have e := stamp_wrap b
  rw [IntKind.wrap_i64] at e
  unfold Mark.Ok at h
  unfold Mark.stampOf at *
  omega

theorem neq_arr (w : World) {xs ys : List UInt8} (hx : xs.length = 16) (hy : ys.length = 16) :
    (Op.equalIn 10000 81 (.agg (xs.map cellOf).toArray) (.agg (ys.map cellOf).toArray)).run Try.prog w = .ok (decide (xs = ys)) w :=
  run_eq_arr w 9998 Try.underlying81 Try.underlying5 (i := Try.t5) (by kernel_rfl) (by kernel_rfl) hx hy

theorem over_all {b : List UInt8} (h : b.length = 16) : over (List.replicate 16 0) 0 b = b := by
  simp [over, h]

end Go.Proofs.Yteonjdigcecceaa.MarkPkg
