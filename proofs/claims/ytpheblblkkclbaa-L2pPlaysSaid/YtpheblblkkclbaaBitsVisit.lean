/-
  What each function of package bits does, the second part: bits visited by a closure.
-/
import Derived.Test.YtpheblblkkclbaaBitsWalks
import Derived.Test.YtpheblblkkclbaaIntsOwn
namespace Go.Proofs.Ytpheblblkkclbaa.BitsPkg
open Go.RowKit
set_option maxRecDepth 4000

/-- visit, by what a round does: I holds ahead of each place; J where it was told to stop. -/
theorem visit_next (c1 c2 c3 : Value) (a b : Int) (hb : b ≤ 9223372036854775807) (I : Int → World → Prop) (J : World → Prop) (w : World) (h0 : I a w)
    (hstep : ∀ i w, a ≤ i → i < b → I i w → Calls Try.prog 77 #[.int .i64 i, c1, c2, c3] w fun e w' => ∃ t, e = .returned (.bool t) ∧ (t = true → I (i + 1) w') ∧ (t = false → J w')) (ha : -9223372036854775808 ≤ a) :
    Calls Try.prog 76 #[.int .i64 a, .int .i64 b, .func (.func 77) #[] #[c1, c2, c3]] w fun e w' => e = .returned (.tuple #[]) ∧ ((∃ i, a ≤ i ∧ b ≤ i ∧ (i ≤ a ∨ i ≤ b) ∧ I i w') ∨ J w') := by
  have H0 := Lib.hid h0
  have HS := Lib.hid hstep
  clear h0 hstep
  go_enter Try.func76, Try.ntmps76
  go_wp2
  go_loopw [6] (fun i wr => ∃ k : Int, i = .int .i64 k ∧ a ≤ k ∧ (k ≤ a ∨ k ≤ b) ∧ I k wr) (fun i _ => (b - intOf i).toNat)
  case atStart => exact ⟨a, rfl, by omega, by omega, H0.out⟩
  case round =>
    obtain ⟨k, rfl, hk1, hk2, hi⟩ := hrel
    have HI := Lib.hid hi
    clear hi
    by_cases hlt : k < b
    · go_wp2_with fail
      refine (HS.out k _ hk1 hlt HI.out).mono ?_
      rintro e w2 ⟨t, rfl, ht, hf⟩
      have HT := Lib.hid ht
      have HF := Lib.hid hf
      clear ht hf
      cases t
      · go_wp2
        go_end0
        exact ⟨rfl, .inr (by first | exact HF.out rfl | exact HF.out trivial)⟩
      · go_wp2
        go_roundw
        case rel => exact ⟨k + 1, by go_num, by omega, by omega, by first | exact HT.out rfl | exact HT.out trivial⟩
        case measure => simp [intOf]; omega
    · go_wp2
      go_end0
      exact ⟨rfl, .inl ⟨k, hk1, by omega, hk2, HI.out⟩⟩

/-- visit, by what a round does: I holds ahead of each place; J where it was told to stop. -/
theorem visit_on (c1 c2 : Value) (a b : Int) (hb : b ≤ 9223372036854775807) (I : Int → World → Prop) (J : World → Prop) (w : World) (h0 : I a w)
    (hstep : ∀ i w, a ≤ i → i < b → I i w → Calls Try.prog 78 #[.int .i64 i, c1, c2] w fun e w' => ∃ t, e = .returned (.bool t) ∧ (t = true → I (i + 1) w') ∧ (t = false → J w')) (ha : -9223372036854775808 ≤ a) :
    Calls Try.prog 76 #[.int .i64 a, .int .i64 b, .func (.func 78) #[] #[c1, c2]] w fun e w' => e = .returned (.tuple #[]) ∧ ((∃ i, a ≤ i ∧ b ≤ i ∧ (i ≤ a ∨ i ≤ b) ∧ I i w') ∨ J w') := by
  have H0 := Lib.hid h0
  have HS := Lib.hid hstep
  clear h0 hstep
  go_enter Try.func76, Try.ntmps76
  go_wp2
  go_loopw [6] (fun i wr => ∃ k : Int, i = .int .i64 k ∧ a ≤ k ∧ (k ≤ a ∨ k ≤ b) ∧ I k wr) (fun i _ => (b - intOf i).toNat)
  case atStart => exact ⟨a, rfl, by omega, by omega, H0.out⟩
  case round =>
    obtain ⟨k, rfl, hk1, hk2, hi⟩ := hrel
    have HI := Lib.hid hi
    clear hi
    by_cases hlt : k < b
    · go_wp2_with fail
      refine (HS.out k _ hk1 hlt HI.out).mono ?_
      rintro e w2 ⟨t, rfl, ht, hf⟩
      have HT := Lib.hid ht
      have HF := Lib.hid hf
      clear ht hf
      cases t
      · go_wp2
        go_end0
        exact ⟨rfl, .inr (by first | exact HF.out rfl | exact HF.out trivial)⟩
      · go_wp2
        go_roundw
        case rel => exact ⟨k + 1, by go_num, by omega, by omega, by first | exact HT.out rfl | exact HT.out trivial⟩
        case measure => simp [intOf]; omega
    · go_wp2
      go_end0
      exact ⟨rfl, .inl ⟨k, hk1, by omega, hk2, HI.out⟩⟩

section
variable (A : Option Addr) (n c B : Nat) (xs : List UInt8) (on : Bool) (i : Int) (Bb Bo Bm : Nat) (v : Value) (w : World)

theorem next_hit (hn : n ≤ 1000000000000) (hr : Bytes w B A n xs) (cb : w.cell? ⟨Bb, 0, none⟩ = some (.slice A n c)) (co : w.cell? ⟨Bo, 0, none⟩ = some (.bool on)) (hm : w.heap[Bm]? = some (.cells #[v] 3 (0, 0))) (h0 : 0 ≤ i) (hg : Bits.get xs i = on) :
    Calls Try.prog 77 #[.int .i64 i, .pointer (some ⟨Bb, 0, none⟩), .pointer (some ⟨Bo, 0, none⟩), .pointer (some ⟨Bm, 0, none⟩)] w fun e w' => e = .returned (.bool false) ∧ ∃ k, w' = (w.drewN k).setCell ⟨Bm, 0, none⟩ (.int .i64 i) := by
  have HG := Lib.hid (show ∀ j, Calls Try.prog 22 #[.slice A n c, .int .i64 i] (w.drewN j) fun e w' => e = .returned (.bool on) ∧ ∃ k, w' = (w.drewN j).drewN k from fun j => by
    have h := get_any A n c B xs i (w.drewN j) hn hr
    rwa [hg] at h)
  have hc := cell_of_one hm
  have hf := free_of_one hm
  have HM := Lib.hid hm
  clear hm hg hr
  go_enter Try.func77, Try.ntmps77
  go_wp2
  go_quiet (first
    | (go_at_call 22; refine Calls.quiet_of (HG.out _)))
  go_wp2
  go_ret
  exact ⟨by simp; omega, _, rfl⟩

theorem next_miss (hn : n ≤ 1000000000000) (hr : Bytes w B A n xs) (cb : w.cell? ⟨Bb, 0, none⟩ = some (.slice A n c)) (co : w.cell? ⟨Bo, 0, none⟩ = some (.bool on)) (hm : w.heap[Bm]? = some (.cells #[.int .i64 (-1)] 3 (0, 0))) (hg : Bits.get xs i = !on) :
    Calls Try.prog 77 #[.int .i64 i, .pointer (some ⟨Bb, 0, none⟩), .pointer (some ⟨Bo, 0, none⟩), .pointer (some ⟨Bm, 0, none⟩)] w fun e w' => e = .returned (.bool true) ∧ ∃ k, w' = w.drewN k := by
  have HG := Lib.hid (show ∀ j, Calls Try.prog 22 #[.slice A n c, .int .i64 i] (w.drewN j) fun e w' => e = .returned (.bool (!on)) ∧ ∃ k, w' = (w.drewN j).drewN k from fun j => by
    have h := get_any A n c B xs i (w.drewN j) hn hr
    rwa [hg] at h)
  have hc := cell_of_one hm
  clear hm hg hr
  go_enter Try.func77, Try.ntmps77
  go_wp2
  go_quiet (first
    | (go_at_call 22; refine Calls.quiet_of (HG.out _)))
  go_wp2
  go_ret
  exact ⟨rfl, _, rfl⟩
end

end Go.Proofs.Ytpheblblkkclbaa.BitsPkg
