/-
  '==' of two arrays of bytes. Nothing of the program's code is named here.
-/
import Derived.Test.YteonjdigcecceaaBytes
import Derived.ChangeKeysEq
namespace Go.Proofs.Yteonjdigcecceaa
open Go.RowKit

section
variable {P : Program}

theorem run_part_byte (w : World) {e : TypeId} (he : P.underlying e = some (.int .u8)) {xs : List UInt8} {i : Nat} {x : UInt8} (hx : xs[i]? = some x) :
    (part e (xs.map cellOf).toArray i).run P w = .ok (cellOf x) w := by
  have hagg : (isAgg e).run P w = .ok false w := by
    unfold isAgg
    rw [Sem.run_bind, run_underlying he w]
    simp
  have hc : (xs.map cellOf).toArray[i]? = some (cellOf x) := by simp [hx]
  simp [part, Sem.run_bind, hagg, hc]

theorem run_eqItems_bytes (w : World) (d : Nat) {e : TypeId} (he : P.underlying e = some (.int .u8)) {xs ys : List UInt8} (hl : ys.length = xs.length) : ∀ is : List Nat, (∀ i ∈ is, i < xs.length) →
    (Op.eqItems (d + 1) e 1 (xs.map cellOf).toArray (ys.map cellOf).toArray is).run P w = .ok (is.all fun i => decide (xs[i]? = ys[i]?)) w
  | [], _ => by simp [Op.eqItems]
  | i :: is, h => by
    have hi := h i (by simp)
    have hx : xs[i]? = some xs[i] := List.getElem?_eq_getElem hi
    have hy : ys[i]? = some (ys[i]'(by omega)) := List.getElem?_eq_getElem (by omega)
    have h2 := run_eqItems_bytes w d he hl is (fun j hj => h j (by simp [hj]))
    have heq : (Op.equalIn (d + 1) e (cellOf xs[i]) (cellOf (ys[i]'(by omega)))).run P w = .ok (((xs[i]).toNat : Int) == ((ys[i]'(by omega)).toNat : Int)) w := run_equalIn_int w d e .u8 .u8 _ _ he
    simp only [Op.eqItems, Nat.mul_one, Sem.run_bind, run_part_byte w he hx, run_part_byte w he hy, heq, Result.andThen_ok, List.all_cons, hx, hy]
    by_cases hxy : xs[i] = ys[i]'(by omega)
    · simp [hxy, h2]
    · have hn : ¬ ((xs[i]).toNat : Int) = ((ys[i]'(by omega)).toNat : Int) := fun e => hxy (UInt8.toNat_inj.1 (by omega))
      simp [hxy, hn]

theorem all_range {xs ys : List UInt8} (hl : ys.length = xs.length) : ((List.range xs.length).all fun i => decide (xs[i]? = ys[i]?)) = decide (xs = ys) := by
  rw [Bool.eq_iff_iff]
  simp only [List.all_eq_true, List.mem_range, decide_eq_true_eq]
  constructor
  · intro h
    apply List.ext_getElem? 
    intro i
    by_cases hi : i < xs.length
    · exact h i hi
    · rw [List.getElem?_eq_none (by omega), List.getElem?_eq_none (by omega)]
  · rintro rfl i _
    rfl

/-- Two arrays of bytes are alike just if their bytes are. -/
theorem run_eq_arr (w : World) (d : Nat) {t e : TypeId} {n : Nat} {i : TypeInfo} (hu : P.underlying t = some (.array n e)) (he : P.underlying e = some (.int .u8)) (hi : P.info? e = some i) (hc : P.cellsOf e = 1) {xs ys : List UInt8} (hx : xs.length = n) (hy : ys.length = n) :
    (Op.equalIn (d + 2) t (.agg (xs.map cellOf).toArray) (.agg (ys.map cellOf).toArray)).run P w = .ok (decide (xs = ys)) w := by
  rw [run_equalIn_array w (d + 1) _ _ hu hi, hc, ← hx, run_eqItems_bytes w d he (by omega) _ (fun i hi => List.mem_range.1 hi), all_range (by omega)]
end

end Go.Proofs.Yteonjdigcecceaa
