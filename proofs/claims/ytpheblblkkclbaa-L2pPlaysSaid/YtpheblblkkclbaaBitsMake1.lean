/-
  What each function of package bits does, the fifth part: Make and Right.
-/
import Derived.Test.YtpheblblkkclbaaBitsNext1
namespace Go.Proofs.Ytpheblblkkclbaa.BitsPkg
open Go.RowKit
set_option maxRecDepth 4000

/-- How many bytes a bitmap of n bits has (none where n is out of its range). -/
def Bits.size (n : Int) : Nat := if 0 ≤ n ∧ n ≤ 8192 then ((n + 7) / 8).toNat else 0

theorem Bits.size_in {n : Int} (h0 : 0 ≤ n) (h1 : n ≤ 8192) : ((Bits.size n : Nat) : Int) = (n + 7) / 8 := by
  unfold Bits.size
  rw [if_pos ⟨h0, h1⟩]
  omega

theorem Bits.size_out {n : Int} (h : ¬ (0 ≤ n ∧ n ≤ 8192)) : Bits.size n = 0 := if_neg h

theorem make_in (n : Int) (w : World) (h0 : 0 ≤ n) (h1 : n ≤ 8192) :
    Calls Try.prog 33 #[.int .i64 n] w fun e w' => ∃ v, e = .returned v ∧ Own w' w.heap.size 5 v (List.replicate (Bits.size n) 0) ∧ Below w.heap.size w w' := by
  have hs := Bits.size_in h0 h1
  obtain ⟨m, hm⟩ : ∃ m, m = Bits.size n := ⟨_, rfl⟩
  rw [← hm] at hs ⊢
  have hml : m ≤ 1025 := by omega
  have hsz := fun w => size_any n h0 h1 w
  rw [← hs] at hsz
  have HSZ := Lib.hid hsz
  obtain ⟨ob, hob⟩ : ∃ ob, ob = Obj.cells ((List.replicate m (0 : UInt8)).map cellOf).toArray 5 := ⟨_, rfl⟩
  have hmk := fun kl kc => run_make_bytes (P := Try.prog) w 35 5 Try.underlying35 info8 kl kc m (by omega)
  rw [← hob] at hmk
  have hown := own_made w 5 m (by show m ≤ 9223372036854775807; omega)
  rw [← hob] at hown
  have HO := Lib.hid hown
  have hmay := may_any n w
  rw [decide_eq_true (show 0 ≤ n ∧ n ≤ 8192 from ⟨h0, h1⟩)] at hmay
  have HMAY := Lib.hid hmay
  clear hs hm hsz hob hown hmay
  go_enter Try.func33, Try.ntmps33
  go_wp2_with fail
  refine HMAY.out.mono ?_
  rintro e w2 ⟨rfl, hw⟩; subst w2
  go_wp2_with fail
  refine (HSZ.out w).mono ?_
  rintro e w2 ⟨rfl, hw⟩; subst w2
  go_wp2
  go_ret
  exact ⟨_, rfl, HO.out, (Below.refl _ _).alloc (Nat.le_refl _) _⟩

theorem make_out (n : Int) (w : World) (h : ¬ (0 ≤ n ∧ n ≤ 8192)) :
    Calls Try.prog 33 #[.int .i64 n] w fun e w' => ∃ v, e = .returned v ∧ Own w' w.heap.size 5 v (List.replicate (Bits.size n) 0) ∧ Below w.heap.size w w' := by
  have hs := Bits.size_out h
  rw [hs]
  have hmay := may_any n w
  rw [decide_eq_false h] at hmay
  have HMAY := Lib.hid hmay
  clear hs hmay h
  go_enter Try.func33, Try.ntmps33
  go_wp2_with fail
  refine HMAY.out.mono ?_
  rintro e w2 ⟨rfl, hw⟩; subst w2
  go_wp2
  go_ret
  exact ⟨_, rfl, ⟨rfl, .inl ⟨rfl, rfl⟩⟩, Below.refl _ _⟩

theorem make_any (n : Int) (w : World) :
    Calls Try.prog 33 #[.int .i64 n] w fun e w' => ∃ v, e = .returned v ∧ Own w' w.heap.size 5 v (List.replicate (Bits.size n) 0) ∧ Below w.heap.size w w' := by
  by_cases h : 0 ≤ n ∧ n ≤ 8192
  · exact make_in n w h.1 h.2
  · exact make_out n w h

/-- Are bytes a bitmap of n bits? -/
def Bits.Right (xs : List UInt8) (n : Int) : Prop := 0 ≤ n ∧ n ≤ 8192 ∧ xs.length = Bits.size n ∧ ∀ i, n ≤ i → i < 8 * (xs.length : Int) → Bits.get xs i = false

theorem right_any (A : Option Addr) (n c B : Nat) (xs : List UInt8) (N : Int) (w : World) (hn : n ≤ 1000000000000) (hr : Bytes w B A n xs) (hB : B ≤ w.heap.size) :
    Calls Try.prog 24 #[.slice A n c, .int .i64 N] w fun e w' => ∃ t, e = .returned (.bool t) ∧ (t = true ↔ Bits.Right xs N) ∧ Below w.heap.size w w' := by
  have hmay := may_any N w
  have hl := hr.1
  by_cases h : 0 ≤ N ∧ N ≤ 8192
  · rw [decide_eq_true h] at hmay
    have HMAY := Lib.hid hmay
    have hsz := fun w => size_any N h.1 h.2 w
    have hs := Bits.size_in h.1 h.2
    rw [← hs] at hsz
    have HSZ := Lib.hid hsz
    obtain ⟨m, hm⟩ : ∃ m, m = Bits.size N := ⟨_, rfl⟩
    rw [← hm] at HSZ
    by_cases hnm : n = m
    · have hnx := fun w2 h2 hb2 => next_any A n c w.heap.size xs (8 * (n : Int)) N true w2 hn h2 hb2 (by omega)
      have HNX := Lib.hid hnx
      have HR := Lib.hid (bytes_more hr hB)
      have hd : ((n : Int) == (m : Int)) = true := by simp [hnm]
      have HIFF := Lib.hid (show ∀ r, Bits.First (fun i => Bits.get xs i == true) (max N 0) (8 * (n : Int)) r → (decide (r < 0) = true ↔ Bits.Right xs N) by
        intro r hF
        rw [show max N 0 = N by omega] at hF
        rw [decide_eq_true_iff]
        constructor
        · intro hr0
          rcases hF with ⟨_, hF⟩ | ⟨h0, _⟩
          · refine ⟨h.1, h.2, by omega, fun i h1 h2 => ?_⟩
            have := hF i h1 (by omega)
            simpa using this
          · omega
        · rintro ⟨_, _, _, hF2⟩
          rcases hF with ⟨h0, _⟩ | ⟨_, h1, h2, h3, _⟩
          · omega
          · have := hF2 r h1 (by omega)
            simp [this] at h3)
      clear hmay hsz hs hm hnx hr hl h hnm hB
      go_enter Try.func24, Try.ntmps24
      go_wp2_with fail
      refine HMAY.out.mono ?_
      rintro e w2 ⟨rfl, hw⟩; subst w2
      go_wp2_with fail
      refine (HSZ.out w).mono ?_
      rintro e w2 ⟨rfl, hw⟩; subst w2
      go_wp2_with fail
      refine (room_any A n c w hn).mono ?_
      rintro e w2 ⟨rfl, hw⟩; subst w2
      go_wp2_with fail
      refine (HNX.out w HR.out (Nat.le_refl _)).mono ?_
      rintro e w2 ⟨r, rfl, hF, hb⟩
      have HF := Lib.hid hF
      have HB := Lib.hid hb
      clear hF hb
      go_wp2
      go_ret
      exact ⟨_, rfl, HIFF.out r HF.out, HB.out⟩
    · have hd : ¬ (n : Int) = (m : Int) := by omega
      have HIFF := Lib.hid (show ¬ Bits.Right xs N from fun hR => hnm (by rw [hm, ← hR.2.2.1, hl]))
      clear hmay hsz hs hm hr hl h hnm hB
      go_enter Try.func24, Try.ntmps24
      go_wp2_with fail
      refine HMAY.out.mono ?_
      rintro e w2 ⟨rfl, hw⟩; subst w2
      go_wp2_with fail
      refine (HSZ.out w).mono ?_
      rintro e w2 ⟨rfl, hw⟩; subst w2
      go_wp2
      go_ret
      exact ⟨false, rfl, ⟨fun h => by simp at h, fun h => absurd h HIFF.out⟩, Below.refl _ _⟩
  · rw [decide_eq_false h] at hmay
    have HMAY := Lib.hid hmay
    have HIFF := Lib.hid (show ¬ Bits.Right xs N from fun hR => h ⟨hR.1, hR.2.1⟩)
    clear hmay hr hl h hB
    go_enter Try.func24, Try.ntmps24
    go_wp2_with fail
    refine HMAY.out.mono ?_
    rintro e w2 ⟨rfl, hw⟩; subst w2
    go_wp2
    go_ret
    exact ⟨false, rfl, ⟨fun h => by simp at h, fun h => absurd h HIFF.out⟩, Below.refl _ _⟩

end Go.Proofs.Ytpheblblkkclbaa.BitsPkg
