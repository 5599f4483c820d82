/-
  Geometries, places and addresses: the mathematics, more of it. Nothing of the program is named here.
-/
import Derived.Test.YtaimecbfplcmhaaGeomMath
namespace Go.Proofs.Ytaimecbfplcmhaa.Geom
variable {c l k p s U R L N : Int}

theorem horner (h : Sizes c l k p s U R L N) {u b g t : Int} (hp : there U k p s u b g t) (W : Int → Int) (hW : ∀ n, 0 ≤ n → n ≤ 1000000 → W n = n) :
    W (W (W (W (W (W (b * p) + g) * U) + u) * s) + t) = b * L + g * R + u * s + t := by
  have hm := h.may
  unfold ok at hm
  have u0 := h.u0
  have u1 := h.u1
  obtain ⟨p0, p1, p2, p3, p4, p5, p6, p7⟩ := hp
  have D1 := mul_bd (show 1 ≤ k by omega) (show k ≤ 64 by omega) (show 1 ≤ p by omega) (show p ≤ 32 by omega)
  have D2 := mul_bd D1.1 D1.2 u0 u1
  have D3 := mul_bd D2.1 D2.2 (show 1 ≤ s by omega) (show s ≤ 4 by omega)
  have A1 := step p4 p5 p2 p3 (show k * p = k * p from rfl)
  have A2 := step p0 p1 A1.1 A1.2 (show k * p * U = k * p * U from rfl)
  have A3 := step p6 p7 A2.1 A2.2 (show k * p * U * s = k * p * U * s from rfl)
  have n1 : 0 ≤ b * p := Int.mul_nonneg p2 (by omega)
  have n2 : 0 ≤ (b * p + g) * U := Int.mul_nonneg A1.1 (by omega)
  have n3 : 0 ≤ ((b * p + g) * U + u) * s := Int.mul_nonneg A2.1 (by omega)
  rw [hW (b * p) n1 (by omega), hW _ A1.1 (by omega), hW _ n2 (by omega), hW _ A2.1 (by omega), hW _ n3 (by omega), hW _ A3.1 (by omega), h.l, h.r]
  rw [Int.add_mul, Int.add_mul, Int.add_mul, Int.mul_assoc, Int.mul_assoc, Int.mul_assoc]

end Go.Proofs.Ytaimecbfplcmhaa.Geom
