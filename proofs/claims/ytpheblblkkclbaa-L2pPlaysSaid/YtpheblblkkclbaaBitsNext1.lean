/-
  What each function of package bits does, the third part: Next.
-/
import Derived.Test.YtpheblblkkclbaaBitsVisit
namespace Go.Proofs.Ytpheblblkkclbaa.BitsPkg
open Go.RowKit
set_option maxRecDepth 4000

theorem heap_drewN (w : World) (k : Nat) : (w.drewN k).heap = w.heap := rfl

theorem Bits.First.more {xs : List UInt8} {n : Nat} {a N r : Int} (h : Bits.First (fun i => Bits.get xs i == true) a (8 * (n : Int)) r) (hl : xs.length = n) (hN : 8 * (n : Int) ≤ N) : Bits.First (fun i => Bits.get xs i == true) a N r := by
  rcases h with ⟨e, h⟩ | ⟨h0, h1, h2, h3, h⟩
  · refine .inl ⟨e, fun i h1 h2 => ?_⟩
    rcases Int.lt_or_le i (8 * (n : Int)) with h3 | h3
    · exact h i h1 h3
    · show (Bits.get xs i == true) = false
      rw [Bits.get_past (by omega)]
      rfl
  · exact .inr ⟨h0, h1, by omega, h3, h⟩

theorem search (A : Option Addr) (n c B : Nat) (xs : List UInt8) (on : Bool) (f M : Int) (Bb Bo Bm : Nat) (w : World) (hn : n ≤ 1000000000000) (hr : Bytes w B A n xs) (hB : B ≤ Bm) (cb : w.cell? ⟨Bb, 0, none⟩ = some (.slice A n c)) (co : w.cell? ⟨Bo, 0, none⟩ = some (.bool on))
    (hm : w.heap[Bm]? = some (.cells #[.int .i64 (-1)] 3 (0, 0))) (h0 : 0 ≤ f) (hM : M ≤ 9223372036854775807) :
    Calls Try.prog 76 #[.int .i64 f, .int .i64 M, .func (.func 77) #[] #[.pointer (some ⟨Bb, 0, none⟩), .pointer (some ⟨Bo, 0, none⟩), .pointer (some ⟨Bm, 0, none⟩)]] w
      fun e w' => e = .returned (.tuple #[]) ∧ ∃ r, w'.heap[Bm]? = some (.cells #[.int .i64 r] 3 (0, 0)) ∧ Bits.First (fun i => Bits.get xs i == on) f M r ∧ Below B w w' := by
  refine (visit_next _ _ _ f M hM (fun i wr => Bytes wr B A n xs ∧ wr.cell? ⟨Bb, 0, none⟩ = some (.slice A n c) ∧ wr.cell? ⟨Bo, 0, none⟩ = some (.bool on) ∧ wr.heap[Bm]? = some (.cells #[.int .i64 (-1)] 3 (0, 0)) ∧ Below B w wr ∧ ∀ j, f ≤ j → j < i → (Bits.get xs j == on) = false)
    (fun wr => ∃ r, wr.heap[Bm]? = some (.cells #[.int .i64 r] 3 (0, 0)) ∧ Bits.First (fun i => Bits.get xs i == on) f M r ∧ Below B w wr) w ⟨hr, cb, co, hm, Below.refl _ _, fun j h1 h2 => absurd h2 (by omega)⟩ ?_ (by omega)).mono ?_
  · rintro i wr hi1 hi2 ⟨hr, cb, co, hm, hb, hf⟩
    by_cases hg : Bits.get xs i = on
    · refine (next_hit A n c B xs on i Bb Bo Bm _ wr hn hr cb co hm (by omega) hg).mono ?_
      rintro e w' ⟨rfl, k, rfl⟩
      refine ⟨false, rfl, fun h => by simp at h, fun _ => ⟨i, one_setCell (w := wr.drewN k) hm, .inr ⟨by omega, hi1, hi2, by simp [hg], hf⟩, ?_⟩⟩
      exact Below.setCell (below_draws hb k) hB _
    · have hg2 : Bits.get xs i = !on := by cases h : Bits.get xs i <;> cases on <;> simp_all
      refine (next_miss A n c B xs on i Bb Bo Bm wr hn hr cb co hm hg2).mono ?_
      rintro e w' ⟨rfl, k, rfl⟩
      refine ⟨true, rfl, fun _ => ⟨hr, cb, co, hm, below_draws hb k, fun j h1 h2 => ?_⟩, fun h => by simp at h⟩
      by_cases hj : j = i
      · subst hj
        simpa using hg
      · exact hf j h1 (by omega)
  · rintro e w' ⟨rfl, ⟨i, hi1, hi2, _, hr, cb, co, hm, hb, hf⟩ | h⟩
    · exact ⟨rfl, -1, hm, .inl ⟨rfl, fun j h1 h2 => hf j h1 (by omega)⟩, hb⟩
    · exact ⟨rfl, h⟩

theorem next_off (A : Option Addr) (n c B : Nat) (xs : List UInt8) (N a : Int) (w : World) (hn : n ≤ 1000000000000) (hr : Bytes w B A n xs) (hB : B ≤ w.heap.size) (hN : N ≤ 9223372036854775807) :
    Calls Try.prog 58 #[.slice A n c, .int .i64 N, .int .i64 a, .bool false] w fun e w' => ∃ r, e = .returned (.int .i64 r) ∧ Bits.First (fun i => Bits.get xs i == false) (max a 0) N r ∧ Below w.heap.size w w' := by
  replace hr := bytes_more hr hB
  clear hB
  have hmf : ∀ (fn : Fn) (first cap : Array Value) (w : World), (Instr.makeFunc fn first cap).run Try.prog w = .ok (.func fn first cap) w := fun _ _ _ _ => rfl
  have hb1 := (Below.refl w.heap.size w).alloc (Nat.le_refl _) (.cells #[.slice A n c] 35)
  have hb2 := hb1.alloc hb1.size (.cells #[.bool false] 4)
  have hb3 := hb2.alloc hb2.size (.cells #[.int .i64 (-1)] 3)
  obtain ⟨X, hX⟩ : ∃ X, X = ((w.alloc (.cells #[.slice A n c] 35)).alloc (.cells #[.bool false] 4)).alloc (.cells #[.int .i64 (-1)] 3) := ⟨_, rfl⟩
  have hs3 : X.heap.size = w.heap.size + 3 := by rw [hX]; simp
  have cb : X.cell? ⟨w.heap.size, 0, none⟩ = some (.slice A n c) := by rw [hX]; rw [World.cell?_alloc_past _ _ _ (by simp; omega), World.cell?_alloc_past _ _ _ (by simp)]; simp [World.cell?_alloc_at]
  have co : X.cell? ⟨w.heap.size + 1, 0, none⟩ = some (.bool false) := by
    rw [hX, World.cell?_alloc_past _ _ _ (by simp), show w.heap.size + 1 = (w.alloc (.cells #[.slice A n c] 35)).heap.size by simp]
    simp [World.cell?_alloc_at]
  have hm : X.heap[w.heap.size + 1 + 1]? = some (.cells #[.int .i64 (-1)] 3 (0, 0)) := by
    rw [hX, show w.heap.size + 1 + 1 = ((w.alloc (.cells #[.slice A n c] 35)).alloc (.cells #[.bool false] 4)).heap.size by simp]
    exact heap_alloc_new _ _
  have hbX : Below w.heap.size w X := by rw [hX]; exact hb3
  have hrX : Bytes X w.heap.size A n xs := bytes_keep hr hbX
  have HC := Lib.hid (fun f M h0 hM => search A n c w.heap.size xs false f M w.heap.size (w.heap.size + 1) (w.heap.size + 1 + 1) X hn hrX (by omega) cb co hm h0 hM)
  have HBX := Lib.hid hbX
  have HX := Lib.hid hX
  clear hb1 hb2 hb3 hs3 cb co hm hbX hrX hX hr
  go_enter Try.func58, Try.ntmps58
  rcases Int.lt_or_le a 0 with h0 | h0
  · have e0 : max a 0 = 0 := by omega
    have E0 := Lib.hid e0
    clear e0
    go_wp2_with fail
    rw [← HX.out]
    refine (HC.out 0 N (by omega) (by omega)).mono ?_
    rintro e w2 ⟨rfl, r, hm, hF, hb⟩
    have hc := cell_of_one hm
    have HF := Lib.hid hF
    have HB := Lib.hid hb
    clear hF hb hm
    go_wp2
    go_ret
    refine ⟨r, rfl, ?_, HBX.out.trans HB.out⟩
    rw [E0.out]
    exact HF.out
  · have e0 : max a 0 = a := by omega
    have E0 := Lib.hid e0
    clear e0
    go_wp2_with fail
    rw [← HX.out]
    refine (HC.out a N (by omega) (by omega)).mono ?_
    rintro e w2 ⟨rfl, r, hm, hF, hb⟩
    have hc := cell_of_one hm
    have HF := Lib.hid hF
    have HB := Lib.hid hb
    clear hF hb hm
    go_wp2
    go_ret
    refine ⟨r, rfl, ?_, HBX.out.trans HB.out⟩
    rw [E0.out]
    exact HF.out

theorem next_on (A : Option Addr) (n c B : Nat) (xs : List UInt8) (N a : Int) (w : World) (hn : n ≤ 1000000000000) (hr : Bytes w B A n xs) (hB : B ≤ w.heap.size) (hN : N ≤ 9223372036854775807) :
    Calls Try.prog 58 #[.slice A n c, .int .i64 N, .int .i64 a, .bool true] w fun e w' => ∃ r, e = .returned (.int .i64 r) ∧ Bits.First (fun i => Bits.get xs i == true) (max a 0) N r ∧ Below w.heap.size w w' := by
  replace hr := bytes_more hr hB
  clear hB
  have hmf : ∀ (fn : Fn) (first cap : Array Value) (w : World), (Instr.makeFunc fn first cap).run Try.prog w = .ok (.func fn first cap) w := fun _ _ _ _ => rfl
  have hb1 := (Below.refl w.heap.size w).alloc (Nat.le_refl _) (.cells #[.slice A n c] 35)
  have hb2 := hb1.alloc hb1.size (.cells #[.bool true] 4)
  have hb3 := hb2.alloc hb2.size (.cells #[.int .i64 (-1)] 3)
  obtain ⟨X, hX⟩ : ∃ X, X = ((w.alloc (.cells #[.slice A n c] 35)).alloc (.cells #[.bool true] 4)).alloc (.cells #[.int .i64 (-1)] 3) := ⟨_, rfl⟩
  have hs3 : X.heap.size = w.heap.size + 3 := by rw [hX]; simp
  have cb : X.cell? ⟨w.heap.size, 0, none⟩ = some (.slice A n c) := by rw [hX]; rw [World.cell?_alloc_past _ _ _ (by simp; omega), World.cell?_alloc_past _ _ _ (by simp)]; simp [World.cell?_alloc_at]
  have co : X.cell? ⟨w.heap.size + 1, 0, none⟩ = some (.bool true) := by
    rw [hX, World.cell?_alloc_past _ _ _ (by simp), show w.heap.size + 1 = (w.alloc (.cells #[.slice A n c] 35)).heap.size by simp]
    simp [World.cell?_alloc_at]
  have hm : X.heap[w.heap.size + 1 + 1]? = some (.cells #[.int .i64 (-1)] 3 (0, 0)) := by
    rw [hX, show w.heap.size + 1 + 1 = ((w.alloc (.cells #[.slice A n c] 35)).alloc (.cells #[.bool true] 4)).heap.size by simp]
    exact heap_alloc_new _ _
  have hbX : Below w.heap.size w X := by rw [hX]; exact hb3
  have hrX : Bytes X w.heap.size A n xs := bytes_keep hr hbX
  have HC := Lib.hid (fun f M h0 hM => search A n c w.heap.size xs true f M w.heap.size (w.heap.size + 1) (w.heap.size + 1 + 1) X hn hrX (by omega) cb co hm h0 hM)
  have HBX := Lib.hid hbX
  have HX := Lib.hid hX
  have HL := Lib.hid hr.1
  clear hb1 hb2 hb3 hs3 cb co hm hbX hrX hX hr
  go_enter Try.func58, Try.ntmps58
  rcases Int.lt_or_le a 0 with h0 | h0
  · have e0 : max a 0 = 0 := by omega
    have E0 := Lib.hid e0
    clear e0
    rcases Int.lt_or_le (8 * (n : Int)) N with h1 | h1
    · go_wp2_with fail
      refine (room_any A n c _ hn).mono ?_
      rintro e w2 ⟨rfl, hw⟩; subst w2
      go_wp2_with fail
      rw [← HX.out]
      refine (HC.out 0 (8 * (n : Int)) (by omega) (by omega)).mono ?_
      rintro e w2 ⟨rfl, r, hm, hF, hb⟩
      have hc := cell_of_one hm
      have HF := Lib.hid hF
      have HB := Lib.hid hb
      clear hF hb hm
      go_wp2
      go_ret
      refine ⟨r, rfl, ?_, HBX.out.trans HB.out⟩
      rw [E0.out]
      exact Bits.First.more HF.out HL.out (by omega)
    · go_wp2_with fail
      refine (room_any A n c _ hn).mono ?_
      rintro e w2 ⟨rfl, hw⟩; subst w2
      go_wp2_with fail
      rw [← HX.out]
      refine (HC.out 0 N (by omega) (by omega)).mono ?_
      rintro e w2 ⟨rfl, r, hm, hF, hb⟩
      have hc := cell_of_one hm
      have HF := Lib.hid hF
      have HB := Lib.hid hb
      clear hF hb hm
      go_wp2
      go_ret
      refine ⟨r, rfl, ?_, HBX.out.trans HB.out⟩
      rw [E0.out]
      exact HF.out
  · have e0 : max a 0 = a := by omega
    have E0 := Lib.hid e0
    clear e0
    rcases Int.lt_or_le (8 * (n : Int)) N with h1 | h1
    · go_wp2_with fail
      refine (room_any A n c _ hn).mono ?_
      rintro e w2 ⟨rfl, hw⟩; subst w2
      go_wp2_with fail
      rw [← HX.out]
      refine (HC.out a (8 * (n : Int)) (by omega) (by omega)).mono ?_
      rintro e w2 ⟨rfl, r, hm, hF, hb⟩
      have hc := cell_of_one hm
      have HF := Lib.hid hF
      have HB := Lib.hid hb
      clear hF hb hm
      go_wp2
      go_ret
      refine ⟨r, rfl, ?_, HBX.out.trans HB.out⟩
      rw [E0.out]
      exact Bits.First.more HF.out HL.out (by omega)
    · go_wp2_with fail
      refine (room_any A n c _ hn).mono ?_
      rintro e w2 ⟨rfl, hw⟩; subst w2
      go_wp2_with fail
      rw [← HX.out]
      refine (HC.out a N (by omega) (by omega)).mono ?_
      rintro e w2 ⟨rfl, r, hm, hF, hb⟩
      have hc := cell_of_one hm
      have HF := Lib.hid hF
      have HB := Lib.hid hb
      clear hF hb hm
      go_wp2
      go_ret
      refine ⟨r, rfl, ?_, HBX.out.trans HB.out⟩
      rw [E0.out]
      exact HF.out

theorem next_any (A : Option Addr) (n c B : Nat) (xs : List UInt8) (N a : Int) (on : Bool) (w : World) (hn : n ≤ 1000000000000) (hr : Bytes w B A n xs) (hB : B ≤ w.heap.size) (hN : N ≤ 9223372036854775807) :
    Calls Try.prog 58 #[.slice A n c, .int .i64 N, .int .i64 a, .bool on] w fun e w' => ∃ r, e = .returned (.int .i64 r) ∧ Bits.First (fun i => Bits.get xs i == on) (max a 0) N r ∧ Below w.heap.size w w' := by
  cases on
  · exact next_off A n c B xs N a w hn hr hB hN
  · exact next_on A n c B xs N a w hn hr hB hN
end Go.Proofs.Ytpheblblkkclbaa.BitsPkg
