/-
  What the document's own Fixed and TakeFixed do (the same texts as in WireRef, for a place that reaches no other function of wire).
-/
import Derived.Test.YteonjdigcecceaaFixed
import Derived.BigQuiet
namespace Go.Proofs.Yteonjdigcecceaa
open Go.RowKit
set_option maxRecDepth 4000

theorem bytes_take {w : World} {B : Nat} {A : Option Addr} {n : Nat} {xs : List UInt8} (h : Bytes w B A n xs) {m : Nat} (hm : m ≤ n) : Bytes w B A m (xs.take m) := by
  have hl := h.1
  refine ⟨by simp; omega, fun i hi => ?_⟩
  simp at hi
  obtain ⟨b, off, e, hb, hc⟩ := h.2 i (by omega)
  exact ⟨b, off, e, hb, by simpa using hc⟩

/-- The first k of the four bytes. -/
theorem fx_len (n : Nat) : (Wire.fx n).length = 4 := rfl

theorem fx_next (n k : Nat) (hk : k < 4) : (Wire.fx n).take (k + 1) = (Wire.fx n).take k ++ [UInt8.ofNat (n / 256 ^ k)] := by
  rw [List.take_succ_eq_append_getElem (by rw [fx_len]; exact hk)]
  congr 2
  rcases (show k = 0 ∨ k = 1 ∨ k = 2 ∨ k = 3 by omega) with rfl | rfl | rfl | rfl <;> simp [Wire.fx]

theorem byte_low (n : Nat) : ((UInt8.ofNat n).toNat : Int) = (n : Int) % 256 := by
  rw [UInt8.toNat_ofNat']
  omega

set_option maxHeartbeats 400000 in
theorem rfixed_any (n : Int) (w : World) (h0 : 0 ≤ n) (h1 : n ≤ 4294967295) :
    Calls Try.prog 44 #[.int .u32 n] w fun e w' => ∃ v', e = .returned v' ∧ Own w' w.heap.size 5 v' (Wire.fx n.toNat) ∧ Below w.heap.size w w' := by
  obtain ⟨n, rfl⟩ := Int.eq_ofNat_of_zero_le h0
  rw [Int.toNat_natCast]
  go_enter Try.func44, Try.ntmps44
  go_wp2
  go_loopw [0, 3, 4] (fun t v i wr => ∃ k m : Nat, k ≤ 4 ∧ m ≤ n ∧ m = n / 256 ^ k ∧ t = .int .u32 m ∧ i = .int .i64 k ∧ Own wr w.heap.size 5 v ((Wire.fx n).take k) ∧ Below w.heap.size w wr) (fun _ _ i _ => 4 - (intOf i).toNat)
  case atStart => exact ⟨0, n, by omega, Nat.le_refl _, by simp, rfl, rfl, ⟨rfl, .inl ⟨rfl, rfl⟩⟩, Below.refl _ _⟩
  case round =>
    obtain ⟨k, m, hk, hmn, hm, rfl, rfl, ho, hb⟩ := hrel
    have HO := Lib.hid ho
    have HB := Lib.hid hb
    have HM := Lib.hid hm
    have hsz := hb.size
    clear ho hb hm
    by_cases hlt : k < 4
    · have E1 := Lib.hid (byte_low m)
      have HN := Lib.hid (fx_next n k hlt)
      rw [← HM.out] at HN
      have HL := Lib.hid (show ((Wire.fx n).take k).length + 1 ≤ 140737488355328 by rw [List.length_take]; omega)
      generalize UInt8.ofNat m = q at E1 HN
      go_wp2_with (at_builtin; refine wpList_append_bytes _ rfl _ _ _ rfl w.heap.size 5 Try.underlying40 info8 _ ((Wire.fx n).take k) rfl (HO.out.alloc _) (wr.heap.size + 1) (some ⟨wr.heap.size, 0, none⟩) 1 1 [q] rfl (bytes_new wr [q] _ _ _ (by rw [List.map_singleton, E1.out])) HL.out (by simp; omega) ?_)
      intro v2 w2 hown2 hgrow hlies
      have HB2 := Lib.hid ((HB.out.alloc hsz _).grown hgrow (by simp; omega) HO.out.block)
      have HO2 : Hid (Own w2 w.heap.size 5 v2 ((Wire.fx n).take (k + 1))) := by rw [HN.out]; exact Lib.hid hown2
      clear hown2 hgrow hlies
      go_wp2
      go_roundw
      case rel => exact ⟨k + 1, m / 256, by omega, by omega, by rw [HM.out, Nat.pow_succ, Nat.div_div_eq_div_mul], by go_num, by go_num, HO2.out, HB2.out⟩
      case measure => simp [intOf]; omega
    · obtain rfl : k = 4 := by omega
      go_wp2
      go_ret
      exact ⟨_, rfl, HO.out, HB.out⟩

theorem fk_four {xs : List UInt8} {a b c d : UInt8} (h0 : xs[0]? = some a) (h1 : xs[1]? = some b) (h2 : xs[2]? = some c) (h3 : xs[3]? = some d) : (Wire.fk xs 4 : Int) = (a.toNat : Int) + 256 * b.toNat + 65536 * c.toNat + 16777216 * d.toNat := by
  simp only [Wire.fk, List.getD, h0, h1, h2, h3, Option.getD_some]
  omega

set_option maxHeartbeats 400000 in
theorem rtakeFixed_any (A : Option Addr) (n c B : Nat) (xs : List UInt8) (w : World) (hn : n ≤ maxLen) (hr : Bytes w B A n xs) :
    Calls Try.prog 49 #[.slice A n c] w fun e w' => e = .returned (.tuple #[.int .u32 (tf xs).1, .int .i64 (tf xs).2]) ∧ Below w.heap.size w w' := by
  unfold maxLen at hn
  have HR := Lib.hid hr
  clear hr
  have HL := Lib.hid HR.out.1
  by_cases h4 : n < 4
  · go_enter Try.func49, Try.ntmps49
    go_wp2
    go_ret2
    unfold tf
    rw [HL.out, if_pos h4]
    exact ⟨rfl, Below.refl _ _⟩
  · obtain ⟨b, off, x0, rfl, _, hx0, hc0⟩ := HR.out.at_ (k := 0) (by omega)
    obtain ⟨b1, off1, x1, he, _, hx1, hc1⟩ := HR.out.at_ (k := 1) (by omega)
    cases he
    obtain ⟨b1, off1, x2, he, _, hx2, hc2⟩ := HR.out.at_ (k := 2) (by omega)
    cases he
    obtain ⟨b1, off1, x3, he, _, hx3, hc3⟩ := HR.out.at_ (k := 3) (by omega)
    cases he
    rw [Nat.add_zero] at hc0
    have e : tf xs = ((x0.toNat : Int) + 256 * x1.toNat + 65536 * x2.toNat + 16777216 * x3.toNat, 0) := by
      unfold tf
      rw [HL.out, if_neg h4, fk_four hx0 hx1 hx2 hx3]
    rw [e]
    clear e hx0 hx1 hx2 hx3
    have b0 := u8_bd x0
    have b1 := u8_bd x1
    have b2 := u8_bd x2
    have b3 := u8_bd x3
    go_enter Try.func49, Try.ntmps49
    go_wp2
    go_quiet (fail)
    go_wp2
    go_ret2
    exact ⟨rfl, below_draws (Below.refl _ _) nq⟩


end Go.Proofs.Yteonjdigcecceaa
