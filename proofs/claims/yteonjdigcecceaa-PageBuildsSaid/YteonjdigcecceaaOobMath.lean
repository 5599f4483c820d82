/-
  The metadata beside a sector, as mathematics: which are valid, their bytes, what bytes tell. Nothing of the program's code is named here.
-/
import Derived.Test.YteonjdigcecceaaWireMath
import Derived.Test.YteonjdigcecceaaCrcMath
namespace Go.Proofs.Yteonjdigcecceaa.Oob
open Go.Proofs.Yteonjdigcecceaa.Wire

/-- Valid metadata: kind, place, stamp. -/
def Ok (k l s : Int) : Prop := 1 ≤ k ∧ k ≤ 4 ∧ 0 ≤ l ∧ l ≤ 2147483647 ∧ 0 ≤ s ∧ s ≤ 1125899906842624

instance (k l s : Int) : Decidable (Ok k l s) := by unfold Ok; infer_instance

/-- The thirteen bytes. -/
def front (k l s : Int) : List UInt8 := UInt8.ofNat k.toNat :: (fx l.toNat ++ (fx (s % 4294967296).toNat ++ fx (s / 4294967296).toNat))

theorem front_len (k l s : Int) : (front k l s).length = 13 := rfl

def sumN (xs : List UInt8) : Nat := (Crc.sum xs).toNat

theorem sumN_lt (xs : List UInt8) : sumN xs < 4294967296 := (Crc.sum xs).isLt

/-- The seventeen bytes. -/
def full (k l s : Int) (d : List UInt8) : List UInt8 := front k l s ++ fx (sumN (front k l s ++ d))

theorem full_len (k l s : Int) (d : List UInt8) : (full k l s d).length = 17 := rfl

def kindOf (b : List UInt8) : Int := ((b.getD 0 0).toNat : Int)
def lbaOf (b : List UInt8) : Int := (fk (b.drop 1) 4 : Int)
def lowOf (b : List UInt8) : Int := (fk (b.drop 5) 4 : Int)
def highOf (b : List UInt8) : Int := (fk (b.drop 9) 4 : Int)
def stampOf (b : List UInt8) : Int := highOf b * 4294967296 + lowOf b

theorem lba_bd (b : List UInt8) : 0 ≤ lbaOf b ∧ lbaOf b < 4294967296 := by
  have := fk_lt (b.drop 1) 4
  unfold lbaOf; omega
theorem low_bd (b : List UInt8) : 0 ≤ lowOf b ∧ lowOf b < 4294967296 := by
  have := fk_lt (b.drop 5) 4
  unfold lowOf; omega
theorem high_bd (b : List UInt8) : 0 ≤ highOf b ∧ highOf b < 4294967296 := by
  have := fk_lt (b.drop 9) 4
  unfold highOf; omega
theorem kind_bd (b : List UInt8) : 0 ≤ kindOf b ∧ kindOf b < 256 := by
  have := (b.getD 0 0).toNat_lt
  unfold kindOf; omega

/-- Two bytes of a number are those bytes again. -/
theorem fx_fk (xs : List UInt8) (h : 4 ≤ xs.length) : fx (fk xs 4) = xs.take 4 := by
  match xs, h with
  | a :: b :: c :: d :: r, _ =>
    have ha := a.toNat_lt
    have hb := b.toNat_lt
    have hc := c.toNat_lt
    have hd := d.toNat_lt
    have e : fk (a :: b :: c :: d :: r) 4 = a.toNat + b.toNat * 256 + c.toNat * 65536 + d.toNat * 16777216 := by simp [fk]
    rw [e]
    unfold fx
    have e0 : UInt8.ofNat (a.toNat + b.toNat * 256 + c.toNat * 65536 + d.toNat * 16777216) = a := by
      apply UInt8.toNat_inj.1; rw [UInt8.toNat_ofNat']; omega
    have e1 : UInt8.ofNat ((a.toNat + b.toNat * 256 + c.toNat * 65536 + d.toNat * 16777216) / 256) = b := by
      apply UInt8.toNat_inj.1; rw [UInt8.toNat_ofNat']; omega
    have e2 : UInt8.ofNat ((a.toNat + b.toNat * 256 + c.toNat * 65536 + d.toNat * 16777216) / 65536) = c := by
      apply UInt8.toNat_inj.1; rw [UInt8.toNat_ofNat']; omega
    have e3 : UInt8.ofNat ((a.toNat + b.toNat * 256 + c.toNat * 65536 + d.toNat * 16777216) / 16777216) = d := by
      apply UInt8.toNat_inj.1; rw [UInt8.toNat_ofNat']; omega
    rw [e0, e1, e2, e3]
    rfl

theorem fx_inj {m n : Nat} (hm : m < 4294967296) (hn : n < 4294967296) (h : fx m = fx n) : m = n := by
  have h1 := fk_fx m hm []
  have h2 := fk_fx n hn []
  rw [h] at h1
  omega

/-- The bytes that metadata are read off are their bytes. -/
theorem parts13 (b : List UInt8) (h : b.length = 17) : b.getD 0 0 :: ((b.drop 1).take 4 ++ ((b.drop 5).take 4 ++ (b.drop 9).take 4)) = b.take 13 := by
  match b, h with
  | b0 :: r, h =>
    simp only [List.getD_cons_zero, List.drop_succ_cons, List.drop_zero, List.take_succ_cons]
    rw [show r.take 12 = (r.take 4) ++ ((r.drop 4).take 8) by rw [← List.take_add], show (r.drop 4).take 8 = (r.drop 4).take 4 ++ ((r.drop 4).drop 4).take 4 by rw [← List.take_add], List.drop_drop]

theorem front_read (b : List UInt8) (h : b.length = 17) : front (kindOf b) (lbaOf b) (stampOf b) = b.take 13 := by
  have hl := low_bd b
  have hh := high_bd b
  have e1 : (stampOf b % 4294967296).toNat = fk (b.drop 5) 4 := by
    have : stampOf b % 4294967296 = lowOf b := by unfold stampOf; omega
    rw [this]; unfold lowOf; simp
  have e2 : (stampOf b / 4294967296).toNat = fk (b.drop 9) 4 := by
    have : stampOf b / 4294967296 = highOf b := by unfold stampOf; omega
    rw [this]; unfold highOf; simp
  have e3 : (lbaOf b).toNat = fk (b.drop 1) 4 := by unfold lbaOf; simp
  have e4 : UInt8.ofNat (kindOf b).toNat = b.getD 0 0 := by unfold kindOf; simp
  unfold front
  rw [e1, e2, e3, e4, fx_fk _ (by simp; omega), fx_fk _ (by simp; omega), fx_fk _ (by simp; omega)]
  exact parts13 b h

theorem kind_front {k l s : Int} (h : Ok k l s) (r : List UInt8) : kindOf (front k l s ++ r) = k := by
  obtain ⟨h1, h2, _⟩ := h
  show ((UInt8.ofNat k.toNat).toNat : Int) = k
  rw [UInt8.toNat_ofNat']
  omega

theorem lba_front {k l s : Int} (h : Ok k l s) (r : List UInt8) : lbaOf (front k l s ++ r) = l := by
  obtain ⟨_, _, h1, h2, _⟩ := h
  have e : (front k l s ++ r).drop 1 = fx l.toNat ++ ((fx (s % 4294967296).toNat ++ fx (s / 4294967296).toNat) ++ r) := rfl
  unfold lbaOf
  rw [e, fk_fx _ (by omega)]
  omega

theorem stamp_front {k l s : Int} (h : Ok k l s) (r : List UInt8) : stampOf (front k l s ++ r) = s := by
  obtain ⟨_, _, _, _, h1, h2⟩ := h
  have e : (front k l s ++ r).drop 5 = fx (s % 4294967296).toNat ++ (fx (s / 4294967296).toNat ++ r) := rfl
  have e2 : (front k l s ++ r).drop 9 = fx (s / 4294967296).toNat ++ r := rfl
  unfold stampOf lowOf highOf
  rw [e, e2, fk_fx _ (by omega), fk_fx _ (by omega)]
  omega

/-- What bytes beside a sector tell: kind, place, stamp, the error. -/
def unp (b d : List UInt8) : Int × Int × Int × Int :=
  if b.length = 17 ∧ d.length = 16 ∧ Ok (kindOf b) (lbaOf b) (stampOf b) then
    if full (kindOf b) (lbaOf b) (stampOf b) d = b then (kindOf b, lbaOf b, stampOf b, 0) else (0, 0, 0, 4)
  else (0, 0, 0, 3)

theorem unp_form {b d : List UInt8} (h : ¬ (b.length = 17 ∧ d.length = 16 ∧ Ok (kindOf b) (lbaOf b) (stampOf b))) : unp b d = (0, 0, 0, 3) := if_neg h

theorem unp_sum {b d : List UInt8} (h : b.length = 17 ∧ d.length = 16 ∧ Ok (kindOf b) (lbaOf b) (stampOf b)) (hf : full (kindOf b) (lbaOf b) (stampOf b) d ≠ b) : unp b d = (0, 0, 0, 4) := by
  unfold unp
  rw [if_pos h, if_neg hf]

theorem unp_ok {b d : List UInt8} (h : b.length = 17 ∧ d.length = 16 ∧ Ok (kindOf b) (lbaOf b) (stampOf b)) (hf : full (kindOf b) (lbaOf b) (stampOf b) d = b) : unp b d = (kindOf b, lbaOf b, stampOf b, 0) := by
  unfold unp
  rw [if_pos h, if_pos hf]

/-- It is one of three. -/
theorem unp_cases (b d : List UInt8) : unp b d = (0, 0, 0, 3) ∨ unp b d = (0, 0, 0, 4) ∨ ∃ k l s, unp b d = (k, l, s, 0) ∧ Ok k l s ∧ d.length = 16 ∧ full k l s d = b := by
  by_cases h : b.length = 17 ∧ d.length = 16 ∧ Ok (kindOf b) (lbaOf b) (stampOf b)
  · by_cases hf : full (kindOf b) (lbaOf b) (stampOf b) d = b
    · exact .inr (.inr ⟨_, _, _, unp_ok h hf, h.2.2, h.2.1, hf⟩)
    · exact .inr (.inl (unp_sum h hf))
  · exact .inl (unp_form h)

/-- What was packed is read as it was. -/
theorem unp_full {k l s : Int} (h : Ok k l s) {d : List UInt8} (hd : d.length = 16) : unp (full k l s d) d = (k, l, s, 0) := by
  have e1 : kindOf (full k l s d) = k := kind_front h _
  have e2 : lbaOf (full k l s d) = l := lba_front h _
  have e3 : stampOf (full k l s d) = s := stamp_front h _
  have := unp_ok (b := full k l s d) (d := d) (by rw [e1, e2, e3]; exact ⟨rfl, hd, h⟩) (by rw [e1, e2, e3])
  rw [this, e1, e2, e3]

theorem full_inj {k l s k' l' s' : Int} (h : Ok k l s) (h' : Ok k' l' s') {d : List UInt8} (e : full k l s d = full k' l' s' d) : k = k' ∧ l = l' ∧ s = s' := by
  refine ⟨?_, ?_, ?_⟩
  · rw [← kind_front h (fx (sumN (front k l s ++ d))), ← kind_front h' (fx (sumN (front k' l' s' ++ d)))]
    exact congrArg kindOf e
  · rw [← lba_front h (fx (sumN (front k l s ++ d))), ← lba_front h' (fx (sumN (front k' l' s' ++ d)))]
    exact congrArg lbaOf e
  · rw [← stamp_front h (fx (sumN (front k l s ++ d))), ← stamp_front h' (fx (sumN (front k' l' s' ++ d)))]
    exact congrArg stampOf e

/-- A text with one byte changed has another sum. -/
theorem sum_set_ne {m : List UInt8} {i : Nat} (hi : i < m.length) {y : UInt8} (hy : y ≠ m[i]) : sumN (m.set i y) ≠ sumN m := by
  intro e
  have e2 : Crc.sum (m.set i y) = Crc.sum m := BitVec.eq_of_toNat_eq e
  have h1 : m.set i y = m.take i ++ [y] ++ m.drop (i + 1) := by rw [List.set_eq_take_append_cons_drop, if_pos hi]; simp
  have h2 : m = m.take i ++ [m[i]] ++ m.drop (i + 1) := by
    rw [List.append_assoc, List.singleton_append, List.getElem_cons_drop, List.take_append_drop]
  rw [h1] at e2
  exact Crc.sum_ne_one (m.take i) (m.drop (i + 1)) hy (e2.trans (congrArg Crc.sum h2))

/-- One byte changed, of the metadata or of the sector: an error. -/
theorem turned {k l s : Int} {d : List UInt8} {i : Nat} (_hd : d.length = 16) (hi : i < (full k l s d ++ d).length) {y : UInt8} (hy : y ≠ (full k l s d ++ d)[i]) :
    unp (((full k l s d ++ d).set i y).take 17) (((full k l s d ++ d).set i y).drop 17) = (0, 0, 0, 3) ∨ unp (((full k l s d ++ d).set i y).take 17) (((full k l s d ++ d).set i y).drop 17) = (0, 0, 0, 4) := by
  have hd := _hd
  rcases unp_cases (((full k l s d ++ d).set i y).take 17) (((full k l s d ++ d).set i y).drop 17) with h | h | ⟨k', l', s', _, ok, hd', hf⟩
  · exact .inl h
  · exact .inr h
  · exfalso
    have hall : full k' l' s' (((full k l s d ++ d).set i y).drop 17) ++ ((full k l s d ++ d).set i y).drop 17 = (full k l s d ++ d).set i y := by rw [hf, List.take_append_drop]
    generalize ((full k l s d ++ d).set i y).drop 17 = d' at hd' hall
    clear hf
    simp only [List.length_append, full_len, hd] at hi
    rcases Nat.lt_or_ge i 17 with h17 | h17
    · rw [List.getElem_append_left (by rw [full_len]; exact h17)] at hy
      rw [List.set_append_left _ _ (by rw [full_len]; exact h17)] at hall
      have hall2 := List.append_inj hall (by rw [List.length_set, full_len, full_len])
      obtain ⟨hb, rfl⟩ := hall2
      unfold full at hb hy
      rcases Nat.lt_or_ge i 13 with h13 | h13
      · rw [List.getElem_append_left (by rw [front_len]; exact h13)] at hy
        rw [List.set_append_left _ _ (by rw [front_len]; exact h13)] at hb
        obtain ⟨hb1, hb2⟩ := List.append_inj hb (by rw [List.length_set, front_len, front_len])
        have hs := fx_inj (sumN_lt _) (sumN_lt _) hb2
        rw [hb1, ← List.set_append_left _ _ (by rw [front_len]; exact h13)] at hs
        exact sum_set_ne (by rw [List.length_append, front_len]; omega) (by rw [List.getElem_append_left (by rw [front_len]; exact h13)]; exact hy) hs
      · rw [List.getElem_append_right (by rw [front_len]; exact h13)] at hy
        rw [List.set_append_right _ _ (by rw [front_len]; exact h13)] at hb
        obtain ⟨hb1, hb2⟩ := List.append_inj hb (by rw [front_len, front_len])
        rw [hb1] at hb2
        have hlen : i - (front k l s).length < (fx (sumN (front k l s ++ d'))).length := by rw [front_len]; show i - 13 < 4; omega
        have := List.getElem_set_self (l := fx (sumN (front k l s ++ d'))) (i := i - (front k l s).length) (a := y) (by simpa using hlen)
        exact hy (by rw [← this]; simp only [← hb2])
    · rw [List.getElem_append_right (by rw [full_len]; exact h17)] at hy
      rw [List.set_append_right _ _ (by rw [full_len]; exact h17)] at hall
      obtain ⟨hb, hd2⟩ := List.append_inj hall (by rw [full_len, full_len])
      unfold full at hb
      obtain ⟨hb1, hb2⟩ := List.append_inj hb (by rw [front_len, front_len])
      have hs := fx_inj (sumN_lt _) (sumN_lt _) hb2
      simp only [full_len] at hy hd2
      rw [hb1, hd2, show i - 17 = (i - 4) - (front k l s).length by rw [front_len]; omega, ← List.set_append_right _ _ (by rw [front_len]; omega)] at hs
      refine sum_set_ne (i := i - 4) (by rw [List.length_append, front_len]; omega) ?_ hs
      rw [List.getElem_append_right (by rw [front_len]; omega)]
      simp only [front_len]
      intro e
      apply hy
      rw [e]
      congr 1

end Go.Proofs.Yteonjdigcecceaa.Oob
