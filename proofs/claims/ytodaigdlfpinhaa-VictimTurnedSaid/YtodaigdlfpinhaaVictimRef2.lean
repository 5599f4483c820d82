/-
  What the document's answer of layer 13 does: Pick, Gain.
-/
import Derived.Test.YtodaigdlfpinhaaVictimRef
namespace Go.Proofs.Ytodaigdlfpinhaa.VictimPkg
open Go.RowKit Victim Lib
set_option maxRecDepth 4000

section
variable {w : World} {B : Nat} {A : Option Addr} {n : Nat} {f : Nat → Ln}

theorem rPick_any (h : Lines w B A n f) (hB : B ≤ w.heap.size) (hn : n ≤ 1000) (c : Nat) :
    Calls Try.prog 11 #[.slice A n c] w fun e w' => e = .returned (.tuple #[.int .i64 (pick f n).1, .bool (pick f n).2]) ∧ Below w.heap.size w w' := by
  have HO := Lib.hid (rOrder_any h hB hn c)
  have hl := rks_len f n
  clear h hB
  rcases pick_cases f n with ⟨h1, h2, _, _⟩ | ⟨i, hi, hm, h2, h3, _⟩
  · rw [h2]
    rw [h1] at HO
    clear h1 h2 hl
    go_enter Try.func11, Try.ntmps11
    go_wp2_with fail
    refine HO.out.mono ?_
    rintro e w2 ⟨Q, m, rfl, hm, _, _, hb⟩
    obtain rfl : m = 0 := hm
    have HB := Lib.hid hb
    clear hb HO
    go_wp2
    go_ret2
    exact ⟨rfl, HB.out⟩
  · rw [h2]
    have hp : 0 < (rks f n).length := Nat.lt_of_le_of_lt (Nat.zero_le _) (cntb_lt hi hm)
    have h4 : (idx f n).getD 0 0 = (i : Int) := by simp [List.getD, h3]
    clear h2 h3 hm hi
    generalize (rks f n).length = r at *
    go_enter Try.func11, Try.ntmps11
    go_wp2_with fail
    refine HO.out.mono ?_
    rintro e w2 ⟨Q, m, rfl, rfl, _, hin, hb⟩
    have HB := Lib.hid hb
    obtain ⟨k0, _⟩ := hin 0 hp
    dsimp only at k0
    rw [h4] at k0
    have d0 : ((m : Int) == 0) = false := by simp; omega
    have hm1 : (0 : Int) < m := by omega
    clear hb HO hin h4
    go_wp2
    go_ret2
    exact ⟨rfl, HB.out⟩

theorem rGain_out (i : Int) (hi : ¬ (0 ≤ i ∧ i < n)) (c : Nat) (w : World) :
    Calls Try.prog 16 #[.slice A n c, .int .i64 i] w fun e w' => e = .returned (.int .i64 0) ∧ Below w.heap.size w w' := by
  by_cases h0 : i < 0
  · clear hi
    go_enter Try.func16, Try.ntmps16
    go_wp2
    go_ret
    exact ⟨rfl, Below.refl _ _⟩
  · have h1 : (n : Int) ≤ i := by omega
    clear hi
    go_enter Try.func16, Try.ntmps16
    go_wp2
    go_ret
    exact ⟨rfl, Below.refl _ _⟩

theorem rGain_in (h : Lines w B A n f) (hB : B ≤ w.heap.size) (i : Nat) (hi : i < n) (c : Nat) :
    Calls Try.prog 16 #[.slice A n c, .int .i64 (i : Int)] w fun e w' => e = .returned (.int .i64 (gain f n (i : Int))) ∧ Below w.heap.size w w' := by
  rw [gain_in hi]
  obtain ⟨b, off, rfl, hb, hl⟩ := h.form (by omega)
  obtain ⟨k0, k1, k2, k3, k4⟩ := hl i hi
  have HL := Lib.hid (hl i hi)
  have hbs : b < w.heap.size := by omega
  have hC := May_any (f i) w
  have hi1 : (i : Int) < n := by omega
  have hmy := may_iff (f i)
  unfold lineV at hC
  clear h hl
  generalize f i = x at *
  have HC := Lib.hid hC
  clear hC
  cases hm : may x with
  | false =>
    rw [hm] at HC
    rw [if_neg (by simp)]
    clear hmy hm
    go_enter Try.func16, Try.ntmps16
    go_wp2_with fail
    refine HC.out.mono ?_
    rintro e w2 ⟨rfl, hb2⟩
    have HB := Lib.hid hb2
    clear hb2
    go_wp2
    go_ret
    exact ⟨rfl, HB.out⟩
  | true =>
    rw [hm] at HC
    rw [if_pos rfl]
    have hmm := hmy.1 hm
    have HW := Lib.hid (show wrap64 (x.rm - x.vd) = x.rm - x.vd by unfold wrap64; omega)
    clear hmy hm hmm
    go_enter Try.func16, Try.ntmps16
    go_wp2_with fail
    refine HC.out.mono ?_
    rintro e w2 ⟨rfl, hb2⟩
    have HB := Lib.hid hb2
    clear k0 k1 k2 k3 k4
    obtain ⟨k0, k1, k2, k3, k4⟩ := HL.out.keep (hb2.block b hbs)
    clear hb2
    go_wp2_with fail
    go_quiet (fail)
    go_wp2
    go_ret
    exact ⟨congrArg (fun z => Ending.returned (.int .i64 z)) HW.out, below_dn HB.out nq⟩

theorem rGain_any (h : Lines w B A n f) (hB : B ≤ w.heap.size) (i : Int) (c : Nat) :
    Calls Try.prog 16 #[.slice A n c, .int .i64 i] w fun e w' => e = .returned (.int .i64 (gain f n i)) ∧ Below w.heap.size w w' := by
  by_cases hi : 0 ≤ i ∧ i < n
  · obtain ⟨j, rfl⟩ := Int.eq_ofNat_of_zero_le hi.1
    exact rGain_in h hB j (by omega) c
  · unfold gain
    rw [if_neg hi]
    exact rGain_out i hi c w
end

end Go.Proofs.Ytodaigdlfpinhaa.VictimPkg
