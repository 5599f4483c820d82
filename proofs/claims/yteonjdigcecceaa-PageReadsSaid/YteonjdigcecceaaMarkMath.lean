/-
  The sector with which a line begins, as mathematics: which marks are valid, their bytes, what bytes tell. Nothing of the program's code is named here.
-/
import Derived.Test.YteonjdigcecceaaOobMath
namespace Go.Proofs.Yteonjdigcecceaa.Mark
open Go.Proofs.Yteonjdigcecceaa.Wire Go.Proofs.Yteonjdigcecceaa.Oob

/-- A valid mark: line, wear, stamp. -/
def Ok (l r s : Int) : Prop := 0 ≤ l ∧ l ≤ 63 ∧ 0 ≤ r ∧ r ≤ 2147483647 ∧ 0 ≤ s ∧ s ≤ 1125899906842624

instance (l r s : Int) : Decidable (Ok l r s) := by unfold Ok; infer_instance

/-- The letter of a wear. -/
def letter (r : Int) : UInt8 := UInt8.ofNat (65 + (r % 7).toNat)

/-- The sixteen bytes. -/
def code (l r s : Int) : List UInt8 := 72 :: 76 :: UInt8.ofNat l.toNat :: letter r :: (fx r.toNat ++ (fx (s % 4294967296).toNat ++ fx (s / 4294967296).toNat))

theorem code_len (l r s : Int) : (code l r s).length = 16 := rfl

def lineOf (b : List UInt8) : Int := ((b.getD 2 0).toNat : Int)
def wearOf (b : List UInt8) : Int := (fk (b.drop 4) 4 : Int)
def lowOf (b : List UInt8) : Int := (fk (b.drop 8) 4 : Int)
def highOf (b : List UInt8) : Int := (fk (b.drop 12) 4 : Int)
def stampOf (b : List UInt8) : Int := highOf b * 4294967296 + lowOf b

theorem wear_bd (b : List UInt8) : 0 ≤ wearOf b ∧ wearOf b < 4294967296 := by
  have := fk_lt (b.drop 4) 4
  unfold wearOf; omega
theorem low_bd (b : List UInt8) : 0 ≤ lowOf b ∧ lowOf b < 4294967296 := by
  have := fk_lt (b.drop 8) 4
  unfold lowOf; omega
theorem high_bd (b : List UInt8) : 0 ≤ highOf b ∧ highOf b < 4294967296 := by
  have := fk_lt (b.drop 12) 4
  unfold highOf; omega
theorem line_bd (b : List UInt8) : 0 ≤ lineOf b ∧ lineOf b < 256 := by
  have := (b.getD 2 0).toNat_lt
  unfold lineOf; omega

theorem line_code {l r s : Int} (h : Ok l r s) : lineOf (code l r s) = l := by
  obtain ⟨h1, h2, _⟩ := h
  show ((UInt8.ofNat l.toNat).toNat : Int) = l
  rw [UInt8.toNat_ofNat']
  omega

theorem wear_code {l r s : Int} (h : Ok l r s) : wearOf (code l r s) = r := by
  obtain ⟨_, _, h1, h2, _⟩ := h
  have e : (code l r s).drop 4 = fx r.toNat ++ (fx (s % 4294967296).toNat ++ fx (s / 4294967296).toNat) := rfl
  unfold wearOf
  rw [e, fk_fx _ (by omega)]
  omega

theorem stamp_code {l r s : Int} (h : Ok l r s) : stampOf (code l r s) = s := by
  obtain ⟨_, _, _, _, h1, h2⟩ := h
  have e : (code l r s).drop 8 = fx (s % 4294967296).toNat ++ fx (s / 4294967296).toNat := rfl
  have e2 : (code l r s).drop 12 = fx (s / 4294967296).toNat ++ [] := by rw [List.append_nil]; rfl
  unfold stampOf lowOf highOf
  rw [e, e2, fk_fx _ (by omega), fk_fx _ (by omega)]
  omega

theorem code_inj {l r s l' r' s' : Int} (h : Ok l r s) (h' : Ok l' r' s') (e : code l r s = code l' r' s') : l = l' ∧ r = r' ∧ s = s' := by
  refine ⟨?_, ?_, ?_⟩
  · rw [← line_code h, ← line_code h']
    exact congrArg lineOf e
  · rw [← wear_code h, ← wear_code h']
    exact congrArg wearOf e
  · rw [← stamp_code h, ← stamp_code h']
    exact congrArg stampOf e

/-- What bytes tell: line, wear, stamp, the error. -/
def rd (b : List UInt8) : Int × Int × Int × Int :=
  if b.length = 16 ∧ Ok (lineOf b) (wearOf b) (stampOf b) ∧ code (lineOf b) (wearOf b) (stampOf b) = b then (lineOf b, wearOf b, stampOf b, 0) else (0, 0, 0, 3)

theorem rd_form {b : List UInt8} (h : ¬ (b.length = 16 ∧ Ok (lineOf b) (wearOf b) (stampOf b) ∧ code (lineOf b) (wearOf b) (stampOf b) = b)) : rd b = (0, 0, 0, 3) := if_neg h

theorem rd_ok {b : List UInt8} (h : b.length = 16 ∧ Ok (lineOf b) (wearOf b) (stampOf b) ∧ code (lineOf b) (wearOf b) (stampOf b) = b) : rd b = (lineOf b, wearOf b, stampOf b, 0) := if_pos h

/-- It is one of two. -/
theorem rd_cases (b : List UInt8) : rd b = (0, 0, 0, 3) ∨ ∃ l r s, rd b = (l, r, s, 0) ∧ Ok l r s ∧ code l r s = b := by
  by_cases h : b.length = 16 ∧ Ok (lineOf b) (wearOf b) (stampOf b) ∧ code (lineOf b) (wearOf b) (stampOf b) = b
  · exact .inr ⟨_, _, _, rd_ok h, h.2.1, h.2.2⟩
  · exact .inl (rd_form h)

/-- What was made is read as it was. -/
theorem rd_code {l r s : Int} (h : Ok l r s) : rd (code l r s) = (l, r, s, 0) := by
  have e1 := line_code h
  have e2 := wear_code h
  have e3 := stamp_code h
  have := rd_ok (b := code l r s) (by rw [e1, e2, e3]; exact ⟨rfl, h, rfl⟩)
  rw [this, e1, e2, e3]

/-- One byte changed: none, or another's; none only where the line is not one, if it is the line's byte. -/
theorem turned {l r s : Int} (h : Ok l r s) {i : Nat} (hi : i < 16) {y : UInt8} (hy : y ≠ (code l r s)[i]'hi) :
    (rd ((code l r s).set i y) = (0, 0, 0, 3) ∧ (i ≠ 2 ∨ 63 < y.toNat)) ∨ ∃ l' r' s', rd ((code l r s).set i y) = (l', r', s', 0) ∧ ¬ (l' = l ∧ r' = r ∧ s' = s) := by
  rcases rd_cases ((code l r s).set i y) with h3 | ⟨l', r', s', h0, ok, hc⟩
  · by_cases h2 : i ≠ 2 ∨ 63 < y.toNat
    · exact .inl ⟨h3, h2⟩
    · exfalso
      have hi2 : i = 2 := Decidable.byContradiction fun h => h2 (.inl h)
      subst hi2
      have hyl : y.toNat ≤ 63 := by omega
      have e : (code l r s).set 2 y = code (y.toNat : Int) r s := by
        show 72 :: 76 :: y :: letter r :: (fx r.toNat ++ (fx (s % 4294967296).toNat ++ fx (s / 4294967296).toNat)) = _
        unfold code
        simp
      have ok : Ok (y.toNat : Int) r s := by
        unfold Ok at h ⊢
        omega
      rw [e, rd_code ok] at h3
      injection h3 with _ h3
      injection h3 with _ h3
      injection h3 with _ h3
      cases h3
  · refine .inr ⟨l', r', s', h0, ?_⟩
    rintro ⟨rfl, rfl, rfl⟩
    apply hy
    have h1 : ((code l' r' s').set i y)[i]? = some y := List.getElem?_set_self (by rw [code_len]; exact hi)
    rw [← hc, List.getElem?_eq_getElem (by rw [code_len]; exact hi)] at h1
    exact (Option.some.inj h1).symm

/-- Where the high half is too great, none is valid. -/
theorem high_bad {b : List UInt8} (h : 262144 < highOf b) (l r : Int) : ¬ Ok l r (stampOf b) := by
  have := low_bd b
  unfold Ok stampOf
  omega

end Go.Proofs.Yteonjdigcecceaa.Mark
