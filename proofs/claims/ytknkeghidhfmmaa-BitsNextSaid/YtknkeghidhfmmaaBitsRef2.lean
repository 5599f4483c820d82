/-
  The document's answer of layer 4, the third part: a bitmap told, the bits that are on, the first one from a place on.
-/
import Derived.Test.YtknkeghidhfmmaaBitsRef
namespace Go.Proofs.Ytknkeghidhfmmaa.BitsPkg
open Go.RowKit
set_option maxRecDepth 4000

set_option maxHeartbeats 1000000 in
theorem ref_right (A : Option Addr) (n c B : Nat) (xs : List UInt8) (N : Int) (w : World) (hn : n ≤ 1000000000000) (hr : Bytes w B A n xs) (hB : B ≤ w.heap.size) :
    Calls Try.prog 14 #[.slice A n c, .int .i64 N] w fun e w' => ∃ t, e = .returned (.bool t) ∧ (t = true ↔ Bits.Right xs N) ∧ Below w.heap.size w w' := by
  have hl := hr.1
  have HR := Lib.hid (bytes_more hr hB)
  clear hr
  by_cases h : 0 ≤ N ∧ N ≤ 8192
  · have h0 := h.1
    have h1 := h.2
    obtain ⟨m, hm⟩ : ∃ m, m = Bits.size N := ⟨_, rfl⟩
    have hmk := ref_make N w
    rw [← hm] at hmk
    have HMK := Lib.hid hmk
    by_cases hnm : n = m
    · have hd : ((n : Int) != (m : Int)) = false := by simp [hnm]
      have HT := Lib.hid (show (∀ j, N ≤ j → j < 8 * (n : Int) → Bits.get xs j = false) → Bits.Right xs N from fun hf => ⟨h0, h1, by omega, fun i h1 h2 => hf i h1 (by omega)⟩)
      have HN := Lib.hid (show ∀ j, N ≤ j → j < 8 * (n : Int) → Bits.get xs j = true → ¬ Bits.Right xs N from fun j h1 h2 h3 hR => by
        have := hR.2.2.2 j h1 (by omega)
        rw [h3] at this
        cases this)
      clear hmk hm hnm h hl
      go_enter Try.func14, Try.ntmps14
      go_wp2_with fail
      refine HMK.out.mono ?_
      rintro e w2 ⟨v2, rfl, ho2, hb2⟩
      obtain ⟨A2, c2, rfl, _⟩ := ho2.reads
      rw [List.length_replicate]
      have HB := Lib.hid hb2
      clear ho2 hb2
      go_wp2
      go_loopw [5] (fun i wr => ∃ k : Int, N ≤ k ∧ i = .int .i64 k ∧ Below w.heap.size w wr ∧ ∀ j, N ≤ j → j < k → Bits.get xs j = false) (fun i _ => (8 * (n : Int) - intOf i).toNat)
      case atStart => exact ⟨N, by omega, rfl, HB.out, fun j h1 h2 => absurd h2 (by omega)⟩
      case round =>
        obtain ⟨k, hk, rfl, hb, hf⟩ := hrel
        have HB := Lib.hid hb
        have HF := Lib.hid hf
        clear hb hf
        by_cases hlt : k < 8 * (n : Int)
        · obtain ⟨t, ht⟩ : ∃ t, t = Bits.get xs k := ⟨_, rfl⟩
          have HG := Lib.hid ht
          clear ht
          go_wp2_with fail
          refine (ref_get A n c w.heap.size xs k wr (by omega) (by omega) (bytes_keep HR.out HB.out)).mono ?_
          rintro e w3 ⟨rfl, hb⟩
          rw [← HG.out]
          replace HB := Lib.hid (below_on HB.out hb)
          clear hb
          cases t
          · go_wp2
            go_roundw
            case rel =>
              refine ⟨k + 1, by omega, by go_num, HB.out, fun j h1 h2 => ?_⟩
              by_cases hj : j = k
              · rw [hj]; exact HG.out.symm
              · exact HF.out j h1 (by omega)
            case measure => simp [intOf]; omega
          · go_wp2
            go_ret
            exact ⟨false, rfl, ⟨fun h => by simp at h, fun h => absurd h (HN.out k hk hlt HG.out.symm)⟩, HB.out⟩
        · go_wp2
          go_ret
          first
            | exact ⟨true, rfl, ⟨fun _ => HT.out fun j h1 h2 => HF.out j h1 (by omega), fun _ => rfl⟩, HB.out⟩
            | exact .inr ⟨rfl, HT.out fun j h1 h2 => HF.out j h1 (by omega), HB.out⟩
    · have hd : ((n : Int) != (m : Int)) = true := by simp; omega
      have HIFF := Lib.hid (show ¬ Bits.Right xs N from fun hR => hnm (by rw [hm, ← hR.2.2.1, hl]))
      clear hmk hm hnm h hl
      go_enter Try.func14, Try.ntmps14
      go_wp2_with fail
      refine HMK.out.mono ?_
      rintro e w2 ⟨v2, rfl, ho2, hb2⟩
      obtain ⟨A2, c2, rfl, _⟩ := ho2.reads
      rw [List.length_replicate]
      have HB := Lib.hid hb2
      clear ho2 hb2
      go_wp2
      go_ret
      exact ⟨false, rfl, ⟨fun h => by simp at h, fun h => absurd h HIFF.out⟩, HB.out⟩
  · have HIFF := Lib.hid (show ¬ Bits.Right xs N from fun hR => h ⟨hR.1, hR.2.1⟩)
    go_enter Try.func14, Try.ntmps14
    rcases Int.lt_or_le N 0 with h0 | h0
    · clear h
      go_wp2
      go_ret
      exact ⟨false, rfl, ⟨fun h => by simp at h, fun h => absurd h HIFF.out⟩, Below.refl _ _⟩
    · have h1 : 8192 < N := by omega
      clear h
      go_wp2
      go_ret
      exact ⟨false, rfl, ⟨fun h => by simp at h, fun h => absurd h HIFF.out⟩, Below.refl _ _⟩

set_option maxHeartbeats 1000000 in
theorem ref_list (A : Option Addr) (n c B : Nat) (xs : List UInt8) (w : World) (hn : n ≤ 1000000000) (hr : Bytes w B A n xs) (hB : B ≤ w.heap.size) :
    Calls Try.prog 21 #[.slice A n c] w fun e w' => ∃ v, e = .returned v ∧ OwnI w' w.heap.size 3 v (Bits.ons xs (8 * n)) ∧ Below w.heap.size w w' := by
  have HR := Lib.hid (bytes_more hr hB)
  clear hr
  go_enter Try.func21, Try.ntmps21
  go_wp2
  go_loopw [3, 4] (fun v i wr => ∃ k : Nat, k ≤ 8 * n ∧ i = .int .i64 k ∧ OwnI wr w.heap.size 3 v (Bits.ons xs k) ∧ Below w.heap.size w wr) (fun _ i _ => 8 * n - (intOf i).toNat)
  case atStart => exact ⟨0, by omega, rfl, ownI_nil _ _ _, Below.refl _ _⟩
  case round =>
    obtain ⟨k, hk, rfl, ho, hb⟩ := hrel
    obtain ⟨zs, hzs⟩ : ∃ zs, zs = Bits.ons xs k := ⟨_, rfl⟩
    have hla := Bits.ons_len xs k
    rw [← hzs] at ho hla
    obtain ⟨A2, m2, c2, rfl⟩ := ho.form
    have hml : zs.length ≤ 1000000000000 := by omega
    have HO := Lib.hid ho
    have HB := Lib.hid hb
    have HZ := Lib.hid hzs
    clear ho hb hzs
    by_cases hlt : k < 8 * n
    · have hlt2 : (k : Int) < 8 * (n : Int) := by omega
      obtain ⟨t, ht⟩ : ∃ t, t = Bits.get xs (k : Int) := ⟨_, rfl⟩
      have HG := Lib.hid ht
      clear ht
      go_wp2_with fail
      refine (ref_get A n c w.heap.size xs (k : Int) wr (by omega) (by omega) (bytes_keep HR.out HB.out)).mono ?_
      rintro e w3 ⟨rfl, hb⟩
      rw [← HG.out]
      replace HO := Lib.hid (HO.out.below hb)
      replace HB := Lib.hid (below_on HB.out hb)
      clear hb
      cases t
      · go_wp2
        go_roundw
        case rel =>
          refine ⟨k + 1, by omega, by go_num, ?_, HB.out⟩
          rw [Bits.ons_off (by rw [← Bits.get_nat]; exact HG.out.symm), ← HZ.out]
          exact HO.out
        case measure => simp [intOf]; omega
      · go_wp2_with (at_builtin; refine wpList_append_int w3 rfl _ _ _ rfl w.heap.size 3 Try.underlying30 infoI (.slice A2 m2 c2) zs rfl HO.out (k : Int) rfl hml HB.out.size ?_)
        intro v3 w4 ho3 hg3
        have HB3 := Lib.hid ((HB.out.alloc HB.out.size _).grown hg3 (by have := HB.out.size; simp; omega) HO.out.block)
        have HO3 := Lib.hid ho3
        clear ho3 hg3
        go_wp2
        go_roundw
        case rel =>
          refine ⟨k + 1, by omega, by go_num, ?_, HB3.out⟩
          rw [Bits.ons_on (by rw [← Bits.get_nat]; exact HG.out.symm), ← HZ.out]
          exact HO3.out
        case measure => simp [intOf]; omega
    · have hlt2 : ¬ (k : Int) < 8 * (n : Int) := by omega
      have HK := Lib.hid (show k = 8 * n by omega)
      go_wp2
      go_ret
      exact ⟨_, rfl, by rw [← HK.out, ← HZ.out]; exact HO.out, HB.out⟩

theorem ref_count (A : Option Addr) (n c B : Nat) (xs : List UInt8) (w : World) (hn : n ≤ 1000000000) (hr : Bytes w B A n xs) (hB : B ≤ w.heap.size) :
    Calls Try.prog 23 #[.slice A n c] w fun e w' => e = .returned (.int .i64 ((Bits.ons xs (8 * n)).length : Int)) ∧ Below w.heap.size w w' := by
  have HR := Lib.hid hr
  clear hr
  go_enter Try.func23, Try.ntmps23
  go_wp2_with fail
  refine (ref_list A n c B xs w hn HR.out hB).mono ?_
  rintro e w2 ⟨v2, rfl, ho, hb⟩
  obtain ⟨A2, c2, rfl, _, _, _⟩ := ho.reads (fun z hz => by have := Bits.ons_bd z hz; omega)
  have HB := Lib.hid hb
  clear ho hb
  obtain ⟨m, hm⟩ : ∃ m, m = (Bits.ons xs (8 * n)).length := ⟨_, rfl⟩
  rw [← hm]
  have HM := Lib.hid hm
  clear hm
  go_wp2
  go_ret
  exact ⟨by rw [← HM.out]; rfl, HB.out⟩

set_option maxHeartbeats 1000000 in
theorem ref_next (A : Option Addr) (n c B : Nat) (xs : List UInt8) (N a : Int) (on : Bool) (w : World) (hn : n ≤ 1000000000) (hr : Bytes w B A n xs) (hB : B ≤ w.heap.size) (hN : N ≤ 9223372036854775807) :
    Calls Try.prog 25 #[.slice A n c, .int .i64 N, .int .i64 a, .bool on] w fun e w' => ∃ r, e = .returned (.int .i64 r) ∧ Bits.First (fun i => Bits.get xs i == on) (max a 0) N r ∧ Below w.heap.size w w' := by
  have HR := Lib.hid (bytes_more hr hB)
  have HL := Lib.hid hr.1
  clear hr
  rcases Int.lt_or_le a 0 with h0 | h0
  · rw [show max a 0 = 0 by omega]
    go_enter Try.func25, Try.ntmps25
    go_wp2
    go_loopw [9] (fun i wr => ∃ k : Int, 0 ≤ k ∧ i = .int .i64 k ∧ Below w.heap.size w wr ∧ ∀ j, 0 ≤ j → j < k → (Bits.get xs j == on) = false) (fun i _ => (N - intOf i).toNat)
    case atStart => exact ⟨0, by omega, rfl, Below.refl _ _, fun j h1 h2 => absurd h2 (by omega)⟩
    case round =>
      obtain ⟨k, hk, rfl, hb, hp⟩ := hrel
      have HB := Lib.hid hb
      have HP := Lib.hid hp
      clear hb hp
      by_cases hlt : k < N
      · by_cases hpast : 8 * (n : Int) ≤ k
        · have HG := Lib.hid (show ∀ j, k ≤ j → Bits.get xs j = false from fun j hj => Bits.get_past (by rw [HL.out]; omega))
          cases on
          · go_wp2
            go_ret
            exact ⟨k, rfl, .inr ⟨by omega, hk, hlt, by show (Bits.get xs k == false) = true; rw [HG.out k (by omega)]; rfl, HP.out⟩, HB.out⟩
          · go_wp2
            go_ret
            refine ⟨-1, rfl, .inl ⟨rfl, fun j h1 h2 => ?_⟩, HB.out⟩
            rcases Int.lt_or_le j k with h3 | h3
            · exact HP.out j h1 h3
            · show (Bits.get xs j == true) = false
              rw [HG.out j h3]
              rfl
        · obtain ⟨t, ht⟩ : ∃ t, t = Bits.get xs k := ⟨_, rfl⟩
          have HG := Lib.hid ht
          clear ht
          go_wp2_with fail
          refine (ref_get A n c w.heap.size xs k wr (by omega) (by omega) (bytes_keep HR.out HB.out)).mono ?_
          rintro e w3 ⟨rfl, hb⟩
          rw [← HG.out]
          replace HB := Lib.hid (below_on HB.out hb)
          clear hb
          by_cases hton : t = on
          · have hd : (t == on) = true := by simpa using hton
            have HD := Lib.hid hd
            clear hton
            go_wp2
            go_ret
            exact ⟨k, rfl, .inr ⟨by omega, hk, hlt, by show (Bits.get xs k == on) = true; rw [← HG.out]; exact HD.out, HP.out⟩, HB.out⟩
          · have hd : (t == on) = false := by simpa using hton
            have HD := Lib.hid hd
            clear hton
            go_wp2
            go_roundw
            case rel =>
              refine ⟨k + 1, by omega, by go_num, HB.out, fun j h1 h2 => ?_⟩
              by_cases hj : j = k
              · rw [hj, ← HG.out]; exact HD.out
              · exact HP.out j h1 (by omega)
            case measure => simp [intOf]; omega
      · go_wp2
        go_ret
        exact ⟨-1, rfl, .inl ⟨rfl, fun j h1 h2 => HP.out j h1 (by omega)⟩, HB.out⟩
  · rw [show max a 0 = a by omega]
    go_enter Try.func25, Try.ntmps25
    go_wp2
    go_loopw [9] (fun i wr => ∃ k : Int, a ≤ k ∧ i = .int .i64 k ∧ Below w.heap.size w wr ∧ ∀ j, a ≤ j → j < k → (Bits.get xs j == on) = false) (fun i _ => (N - intOf i).toNat)
    case atStart => exact ⟨a, by omega, rfl, Below.refl _ _, fun j h1 h2 => absurd h2 (by omega)⟩
    case round =>
      obtain ⟨k, hk, rfl, hb, hp⟩ := hrel
      have HB := Lib.hid hb
      have HP := Lib.hid hp
      clear hb hp
      by_cases hlt : k < N
      · by_cases hpast : 8 * (n : Int) ≤ k
        · have HG := Lib.hid (show ∀ j, k ≤ j → Bits.get xs j = false from fun j hj => Bits.get_past (by rw [HL.out]; omega))
          cases on
          · go_wp2
            go_ret
            exact ⟨k, rfl, .inr ⟨by omega, hk, hlt, by show (Bits.get xs k == false) = true; rw [HG.out k (by omega)]; rfl, HP.out⟩, HB.out⟩
          · go_wp2
            go_ret
            refine ⟨-1, rfl, .inl ⟨rfl, fun j h1 h2 => ?_⟩, HB.out⟩
            rcases Int.lt_or_le j k with h3 | h3
            · exact HP.out j h1 h3
            · show (Bits.get xs j == true) = false
              rw [HG.out j h3]
              rfl
        · obtain ⟨t, ht⟩ : ∃ t, t = Bits.get xs k := ⟨_, rfl⟩
          have HG := Lib.hid ht
          clear ht
          go_wp2_with fail
          refine (ref_get A n c w.heap.size xs k wr (by omega) (by omega) (bytes_keep HR.out HB.out)).mono ?_
          rintro e w3 ⟨rfl, hb⟩
          rw [← HG.out]
          replace HB := Lib.hid (below_on HB.out hb)
          clear hb
          by_cases hton : t = on
          · have hd : (t == on) = true := by simpa using hton
            have HD := Lib.hid hd
            clear hton
            go_wp2
            go_ret
            exact ⟨k, rfl, .inr ⟨by omega, hk, hlt, by show (Bits.get xs k == on) = true; rw [← HG.out]; exact HD.out, HP.out⟩, HB.out⟩
          · have hd : (t == on) = false := by simpa using hton
            have HD := Lib.hid hd
            clear hton
            go_wp2
            go_roundw
            case rel =>
              refine ⟨k + 1, by omega, by go_num, HB.out, fun j h1 h2 => ?_⟩
              by_cases hj : j = k
              · rw [hj, ← HG.out]; exact HD.out
              · exact HP.out j h1 (by omega)
            case measure => simp [intOf]; omega
      · go_wp2
        go_ret
        exact ⟨-1, rfl, .inl ⟨rfl, fun j h1 h2 => HP.out j h1 (by omega)⟩, HB.out⟩

end Go.Proofs.Ytknkeghidhfmmaa.BitsPkg
