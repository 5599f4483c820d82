/-
  What package victim's Pick and Gain do, for every slice of lines.
-/
import Derived.Test.YtodaigdlfpinhaaVictimMin
import Derived.BigQuiet
namespace Go.Proofs.Ytodaigdlfpinhaa.VictimPkg
open Go.RowKit Victim Lib
set_option maxRecDepth 4000

theorem below_dn {B : Nat} {a w : World} (h : Below B a w) (n : Nat) : Below B a (w.drewN n) := ⟨h.os, h.tape, h.output, h.size, h.block⟩

section
variable {w : World} {B : Nat} {A : Option Addr} {n : Nat} {f : Nat → Ln}

theorem Pick_any (h : Lines w B A n f) (hB : B ≤ w.heap.size) (hn : n ≤ 1000) (c : Nat) :
    Calls Try.prog 10 #[.slice A n c] w fun e w' => e = .returned (.tuple #[.int .i64 (pick f n).1, .bool (pick f n).2]) ∧ Below w.heap.size w w' := by
  have HR := Lib.hid (ranks_any h hB hn c)
  have hl := rks_len f n
  clear h hB
  by_cases hz : rks f n = []
  · rw [(pick_none hz).1]
    rw [hz] at HR
    clear hz hl
    go_enter Try.func10, Try.ntmps10
    go_wp2_with fail
    refine HR.out.mono ?_
    rintro e w2 ⟨v, rfl, hrow, hb⟩
    obtain ⟨A1, c1, hv, _⟩ := hrow.form
    simp only [rrows, List.map_nil, List.length_nil] at hv
    subst hv
    have HB := Lib.hid hb
    clear hb hrow
    go_wp2
    go_ret2
    exact ⟨rfl, HB.out⟩
  · have hp : 0 < (rks f n).length := by
      rcases Nat.eq_zero_or_pos (rks f n).length with h | h
      · exact absurd (List.length_eq_zero_iff.1 h) hz
      · exact h
    have HP : Hid (∀ a, Best (rks f n) a → pick f n = (a.2.2, true)) := Lib.hid fun a ha => pick_best ha.1 ha.2
    obtain ⟨x, b, hxb⟩ : ∃ x b, pick f n = (x, b) := ⟨_, _, rfl⟩
    rw [hxb] at HP ⊢
    dsimp only
    generalize rks f n = d at *
    clear hxb hz
    go_enter Try.func10, Try.ntmps10
    go_wp2_with fail
    refine HR.out.mono ?_
    rintro e w2 ⟨v, rfl, hrow, hb⟩
    have HM := Lib.hid (MinFunc_any hrow hp (by omega))
    obtain ⟨A1, c1, hv, _⟩ := hrow.form
    rw [rrows_len] at hv
    subst hv
    have HB := Lib.hid hb
    have d0 : ((d.length : Int) == 0) = false := by simp; intro h; rw [h] at hp; simp at hp
    clear hb hrow hp
    go_wp2_with fail
    refine HM.out.mono ?_
    rintro e w3 ⟨⟨a, rfl, ha⟩, hb⟩
    have HA := Lib.hid (HP.out a ha)
    replace HB := Lib.hid (below_then HB.out hb)
    have HI := Lib.hid (fun w => index_any a w)
    unfold rankV rankC at HI
    clear ha hb HM
    unfold rankV rankC
    go_wp2_with fail
    refine (HI.out _).mono ?_
    rintro e w4 ⟨rfl, hb⟩
    replace HB := Lib.hid (below_then HB.out hb)
    clear hb HI
    go_wp2
    go_ret2
    have := HA.out
    injection this with h1 h2
    exact ⟨by rw [h1, h2]; rfl, HB.out⟩

theorem Gain_out (i : Int) (hi : ¬ (0 ≤ i ∧ i < n)) (c : Nat) (w : World) :
    Calls Try.prog 15 #[.slice A n c, .int .i64 i] w fun e w' => e = .returned (.int .i64 0) ∧ Below w.heap.size w w' := by
  by_cases h0 : i < 0
  · clear hi
    go_enter Try.func15, Try.ntmps15
    go_wp2
    go_ret
    exact ⟨rfl, Below.refl _ _⟩
  · have h1 : (n : Int) ≤ i := by omega
    clear hi
    go_enter Try.func15, Try.ntmps15
    go_wp2
    go_ret
    exact ⟨rfl, Below.refl _ _⟩

theorem Gain_in (h : Lines w B A n f) (hB : B ≤ w.heap.size) (i : Nat) (hi : i < n) (c : Nat) :
    Calls Try.prog 15 #[.slice A n c, .int .i64 (i : Int)] w fun e w' => e = .returned (.int .i64 (gain f n (i : Int))) ∧ Below w.heap.size w w' := by
  rw [gain_in hi]
  obtain ⟨b, off, rfl, hb, hl⟩ := h.form (by omega)
  obtain ⟨k0, k1, k2, k3, k4⟩ := hl i hi
  have HL := Lib.hid (hl i hi)
  have hbs : b < w.heap.size := by omega
  have hC := collectable_any (f i) w
  have hi1 : (i : Int) < n := by omega
  have hmy := may_iff (f i)
  unfold lineV at hC
  clear h hl
  generalize f i = x at *
  have HC := Lib.hid hC
  clear hC
  cases hm : may x with
  | false =>
    rw [hm] at HC
    rw [if_neg (by simp)]
    clear hmy hm
    go_enter Try.func15, Try.ntmps15
    go_wp2_with fail
    refine HC.out.mono ?_
    rintro e w2 ⟨rfl, hb2⟩
    have HB := Lib.hid hb2
    clear hb2
    go_wp2
    go_ret
    exact ⟨rfl, HB.out⟩
  | true =>
    rw [hm] at HC
    rw [if_pos rfl]
    have hmm := hmy.1 hm
    have HW := Lib.hid (show wrap64 (x.rm - x.vd) = x.rm - x.vd by unfold wrap64; omega)
    clear hmy hm hmm
    go_enter Try.func15, Try.ntmps15
    go_wp2_with fail
    refine HC.out.mono ?_
    rintro e w2 ⟨rfl, hb2⟩
    have HB := Lib.hid hb2
    clear k0 k1 k2 k3 k4
    obtain ⟨k0, k1, k2, k3, k4⟩ := HL.out.keep (hb2.block b hbs)
    clear hb2
    go_wp2_with fail
    go_quiet (fail)
    go_wp2
    go_ret
    exact ⟨congrArg (fun z => Ending.returned (.int .i64 z)) HW.out, below_dn HB.out nq⟩

theorem Gain_any (h : Lines w B A n f) (hB : B ≤ w.heap.size) (i : Int) (c : Nat) :
    Calls Try.prog 15 #[.slice A n c, .int .i64 i] w fun e w' => e = .returned (.int .i64 (gain f n i)) ∧ Below w.heap.size w w' := by
  by_cases hi : 0 ≤ i ∧ i < n
  · obtain ⟨j, rfl⟩ := Int.eq_ofNat_of_zero_le hi.1
    exact Gain_in h hB j (by omega) c
  · unfold gain
    rw [if_neg hi]
    exact Gain_out i hi c w
end

end Go.Proofs.Ytodaigdlfpinhaa.VictimPkg
