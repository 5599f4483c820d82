/-
  The document's answer of layer 4, the second part: a bit got, bytes made, a bitmap told.
-/
import Derived.Test.YtpheblblkkclbaaBitsSame
namespace Go.Proofs.Ytpheblblkkclbaa.BitsPkg
open Go.RowKit
set_option maxRecDepth 4000

theorem worth_any (i : Nat) (hi : (i : Int) ≤ 9223372036854775807) (w : World) :
    Calls Try.prog 69 #[.int .i64 (i : Int)] w fun e w' => e = .returned (.int .u8 (Bits.worth i : Int)) ∧ w' = w := by
  obtain ⟨m, hm⟩ : ∃ m, m = i % 8 := ⟨_, rfl⟩
  have hm8 : m < 8 := by omega
  have hme : ((i : Int) % 8) = (m : Int) := by omega
  have HW := Lib.hid (show Bits.worth i = 2 ^ m by rw [hm]; rfl)
  clear hm
  go_enter Try.func69, Try.ntmps69
  go_wp2
  go_loopw [3, 4] (fun v i wr => ∃ k q : Nat, k ≤ m ∧ q = 2 ^ k ∧ v = .int .i64 q ∧ i = .int .i64 k ∧ wr = w) (fun _ i _ => m - (intOf i).toNat)
  case atStart => exact ⟨0, 1, by omega, rfl, rfl, rfl, rfl⟩
  case round =>
    obtain ⟨k, q, hk, hq, rfl, rfl, hwr⟩ := hrel
    subst wr
    have hq1 : q ≤ 128 := by
      rw [hq]
      exact Nat.pow_le_pow_right (n := 2) (i := k) (j := 7) (by omega) (by omega)
    have HQ := Lib.hid hq
    clear hq
    by_cases hlt : k < m
    · go_wp2
      go_roundw
      case rel => exact ⟨k + 1, q * 2, by omega, by rw [HQ.out, Nat.pow_succ], by go_num, by go_num, trivial⟩
      case measure => simp [intOf]; omega
    · obtain rfl : k = m := by omega
      go_wp2
      go_ret
      refine ⟨ret_int ?_, rfl⟩
      rw [HW.out, ← HQ.out]

theorem div_worth (x : UInt8) (i : Nat) : ((x.toNat : Int) / (Bits.worth i : Int) % 2 == 1) = x.toNat.testBit (i % 8) := by
  have h := (Bits.tests ⟨x.toNat, x.toNat_lt⟩ ⟨i % 8, by omega⟩).2.1
  simp only at h
  have e : (x.toNat : Int) / (Bits.worth i : Int) % 2 = ((x.toNat / 2 ^ (i % 8) % 2 : Nat) : Int) := by simp [Bits.worth]
  rw [e, h]
  cases x.toNat.testBit (i % 8) <;> rfl

theorem ref_get_in (A : Option Addr) (n c B : Nat) (xs : List UInt8) (i : Nat) (w : World) (hn : n ≤ 1000000000000) (hr : Bytes w B A n xs) (h1 : i < 8 * n) :
    Calls Try.prog 68 #[.slice A n c, .int .i64 (i : Int)] w fun e w' => e = .returned (.bool (Bits.bit xs i)) ∧ ∃ k, w' = w.drewN k := by
  obtain ⟨b, off, x, rfl, hb, hx, hc⟩ := hr.at_ (show i / 8 < n by omega)
  rw [Bits.bit_at hx]
  clear hr hx
  have hlt : ((i / 8 : Nat) : Int) < (n : Int) := by omega
  have hlt2 : (i : Int) / 8 < (n : Int) := by omega
  obtain ⟨p, hp⟩ : ∃ p, p = Bits.worth i := ⟨_, rfl⟩
  have hwo := fun w => worth_any i (by omega) w
  have hp1 := Bits.worth_bd i
  rw [← hp] at hwo hp1
  have HWO := Lib.hid hwo
  have HP := Lib.hid hp
  have hx8 := u8_bd x
  have hp0 : ¬ (p : Int) = 0 := by omega
  clear hwo hp
  go_enter Try.func68, Try.ntmps68
  go_wp2
  go_quiet (first
    | (go_at_call 69; refine Calls.quiet_of_same (HWO.out _)))
  go_wp2
  go_ret
  refine ⟨?_, _, rfl⟩
  rw [← div_worth x i, ← HP.out]
  rfl

theorem ref_get_out (A : Option Addr) (n c : Nat) (i : Int) (w : World) (hn : n ≤ 1000000000000) (hi1 : i ≤ 9223372036854775807) (h : i < 0 ∨ 8 * (n : Int) ≤ i) :
    Calls Try.prog 68 #[.slice A n c, .int .i64 i] w fun e w' => e = .returned (.bool false) ∧ ∃ k, w' = w.drewN k := by
  rcases h with h | h
  · go_enter Try.func68, Try.ntmps68
    go_wp2
    go_ret
    exact ⟨rfl, 0, rfl⟩
  · have h0 : ¬ i < 0 := by omega
    have h1 : (n : Int) ≤ i / 8 := by omega
    go_enter Try.func68, Try.ntmps68
    go_wp2
    go_ret
    exact ⟨rfl, 0, rfl⟩

theorem ref_get (A : Option Addr) (n c B : Nat) (xs : List UInt8) (i : Int) (w : World) (hn : n ≤ 1000000000000) (hi1 : i ≤ 9223372036854775807) (hr : Bytes w B A n xs) :
    Calls Try.prog 68 #[.slice A n c, .int .i64 i] w fun e w' => e = .returned (.bool (Bits.get xs i)) ∧ Below w.heap.size w w' := by
  have hl := hr.1
  have go : Calls Try.prog 68 #[.slice A n c, .int .i64 i] w fun e w' => e = .returned (.bool (Bits.get xs i)) ∧ ∃ k, w' = w.drewN k := by
    by_cases h : i < 0 ∨ 8 * (n : Int) ≤ i
    · have e : Bits.get xs i = false := h.elim Bits.get_neg (fun h => Bits.get_past (by omega))
      rw [e]
      exact ref_get_out A n c i w hn hi1 h
    · obtain ⟨k, rfl⟩ := Int.eq_ofNat_of_zero_le (show 0 ≤ i by omega)
      rw [Bits.get_nat]
      exact ref_get_in A n c B xs k w hn hr (by omega)
  exact go.mono fun e w' ⟨he, k, hk⟩ => ⟨he, by subst hk; exact below_draws (Below.refl _ _) k⟩

theorem rep_snoc (k : Nat) : List.replicate k (0 : UInt8) ++ [0] = List.replicate (k + 1) 0 := by rw [List.replicate_succ']

theorem ref_make (n : Int) (w : World) :
    Calls Try.prog 38 #[.int .i64 n] w fun e w' => ∃ v, e = .returned v ∧ Own w' w.heap.size 5 v (List.replicate (Bits.size n) 0) ∧ Below w.heap.size w w' := by
  by_cases h : 0 < n ∧ n ≤ 8192
  · have hs := Bits.size_in (show 0 ≤ n by omega) h.2
    obtain ⟨m, hm⟩ : ∃ m, m = Bits.size n := ⟨_, rfl⟩
    rw [← hm] at hs ⊢
    have hs1 : 8 * (m : Int) < n + 8 := by omega
    have hs2 : n ≤ 8 * (m : Int) := by omega
    have h1 := h.1
    have h2 := h.2
    clear hm hs h
    go_enter Try.func38, Try.ntmps38
    go_wp2
    go_loopw [3, 4] (fun v i wr => ∃ (k : Nat) (z : Int), k ≤ m ∧ z = 8 * (k : Int) ∧ i = .int .i64 z ∧ Own wr w.heap.size 5 v (List.replicate k 0) ∧ Below w.heap.size w wr) (fun _ i _ => (n + 8 - intOf i).toNat)
    case atStart => exact ⟨0, 0, by omega, by omega, rfl, ⟨rfl, .inl ⟨rfl, rfl⟩⟩, Below.refl _ _⟩
    case round =>
      obtain ⟨k, z, hk, hz, rfl, ho, hb⟩ := hrel
      have HO := Lib.hid ho
      have HB := Lib.hid hb
      have hsz := hb.size
      have hk0 : 0 ≤ z := by omega
      have hk8 : z ≤ 8200 := by omega
      have hlen : (List.replicate k (0 : UInt8)).length + 1 ≤ 140737488355328 := by simp; omega
      have HZ := Lib.hid hz
      clear ho hb
      by_cases hlt : z < n
      · have hkm : k + 1 ≤ m := by omega
        clear hz
        go_wp2_with (at_builtin; refine wpList_append_bytes _ rfl _ _ _ rfl w.heap.size 5 Try.underlying35 info8 _ (List.replicate k 0) rfl (HO.out.alloc _) (wr.heap.size + 1) (some ⟨wr.heap.size, 0, none⟩) 1 1 [0] rfl (bytes_new wr [0] _ _ _ rfl) hlen (by simp; omega) ?_)
        intro v2 w2 ho2 hg2 _
        rw [rep_snoc] at ho2
        have HB2 := Lib.hid ((HB.out.alloc hsz _).grown hg2 (by simp; omega) HO.out.block)
        have HO2 := Lib.hid ho2
        clear ho2 hg2
        go_wp2
        go_roundw
        case rel => exact ⟨k + 1, z + 8, by omega, by have := HZ.out; omega, by go_num, HO2.out, HB2.out⟩
        case measure => simp [intOf]; omega
      · have HK := Lib.hid (show k = m by omega)
        clear hz
        go_wp2
        go_ret
        exact ⟨_, rfl, by rw [← HK.out]; exact HO.out, HB.out⟩
  · have hs : Bits.size n = 0 := by
      unfold Bits.size
      split <;> omega
    rw [hs]
    clear hs
    go_enter Try.func38, Try.ntmps38
    go_wp2
    refine wp_loop_rounds 1 ?_
    rw [rounds_succ]
    by_cases h0 : 0 < n
    · have h1 : 8192 < n := by omega
      clear h
      go_wp2
      go_ret
      exact ⟨_, rfl, ⟨rfl, .inl ⟨rfl, rfl⟩⟩, Below.refl _ _⟩
    · clear h
      go_wp2
      go_ret
      exact ⟨_, rfl, ⟨rfl, .inl ⟨rfl, rfl⟩⟩, Below.refl _ _⟩

end Go.Proofs.Ytpheblblkkclbaa.BitsPkg
