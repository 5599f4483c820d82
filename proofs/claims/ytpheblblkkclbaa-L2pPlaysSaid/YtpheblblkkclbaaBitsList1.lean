/-
  What each function of package bits does, the fourth part: Count and List.
-/
import Derived.Test.YtpheblblkkclbaaBitsNext1
namespace Go.Proofs.Ytpheblblkkclbaa.BitsPkg
open Go.RowKit
set_option maxRecDepth 4000

theorem infoI : intInfo Try.prog 3 := info_parts (by kernel_rfl)

theorem count_show (i k : Int) (Bm : Nat) (t : TypeId) (w : World) (hk0 : 0 ≤ k) (hk : k ≤ 9000000000000000000) (hm : w.heap[Bm]? = some (.cells #[.int .i64 k] t (0, 0))) :
    Calls Try.prog 61 #[.int .i64 i, .pointer (some ⟨Bm, 0, none⟩)] w fun e w' => e = .returned (.tuple #[]) ∧ w' = w.setCell ⟨Bm, 0, none⟩ (.int .i64 (k + 1)) := by
  have hc := cell_of_one hm
  have hf := free_of_one hm
  clear hm
  go_enter Try.func61, Try.ntmps61
  go_wp2
  go_end0
  exact ⟨rfl, rfl⟩

/-- What stands while bits are visited: the bytes and where they lie, what shows a bit, what it has gathered. -/
structure Seen (w0 : World) (B base Bb Bs Bm : Nat) (A : Option Addr) (n c : Nat) (xs : List UInt8) (t : TypeId) (show_ : Value) (R : World → Value → List Int → Prop) (i : Nat) (w : World) : Prop where
  bytes : Bytes w B A n xs
  cb : w.cell? ⟨Bb, 0, none⟩ = some (.slice A n c)
  cs : w.cell? ⟨Bs, 0, none⟩ = some show_
  size : base ≤ w.heap.size
  below : Below B w0 w
  got : ∃ v, w.heap[Bm]? = some (.cells #[v] t (0, 0)) ∧ R w v (Bits.ons xs i)

section
variable (w0 : World) (B base Bb Bs Bm : Nat) (A : Option Addr) (n c : Nat) (xs : List UInt8) (t : TypeId) (R : World → Value → List Int → Prop)
    (hn : n ≤ 1000000000) (h1 : B ≤ Bm) (h2 : Bm < base) (h3 : Bb < base) (h4 : Bs < base) (h5 : Bb ≠ Bm) (h6 : Bs ≠ Bm) (h7 : B ≤ base)
    (hR1 : ∀ w v zs k, R w v zs → R (w.drewN k) v zs) (hR2 : ∀ w v zs u, R w v zs → R (w.setCell ⟨Bm, 0, none⟩ u) v zs)
    (hshow : ∀ (i : Nat) w v zs, i ≤ 8000000000 → zs.length ≤ i → w.heap[Bm]? = some (.cells #[v] t (0, 0)) → R w v zs → base ≤ w.heap.size →
      Calls Try.prog 61 #[.int .i64 (i : Int), .pointer (some ⟨Bm, 0, none⟩)] w fun e w' => e = .returned (.tuple #[]) ∧ ∃ v' wm, w' = wm.setCell ⟨Bm, 0, none⟩ v' ∧ Below base w wm ∧ R wm v' (zs ++ [(i : Int)]))

include hn h1 h2 h3 h4 h5 h6 h7 hR1 hR2 hshow in
theorem on_count (i : Nat) (hi : i < 8 * n) (w : World) (hs : Seen w0 B base Bb Bs Bm A n c xs t (.func (.func 61) #[] #[.pointer (some ⟨Bm, 0, none⟩)]) R i w) :
    Calls Try.prog 78 #[.int .i64 (i : Int), .pointer (some ⟨Bb, 0, none⟩), .pointer (some ⟨Bs, 0, none⟩)] w fun e w' => e = .returned (.bool true) ∧ Seen w0 B base Bb Bs Bm A n c xs t (.func (.func 61) #[] #[.pointer (some ⟨Bm, 0, none⟩)]) R (i + 1) w' := by
  obtain ⟨hr, cb, cs, hsz, hb, v, hm, hv⟩ := hs
  have hget := get_any A n c B xs (i : Int) w (by omega) hr
  rw [Bits.get_nat] at hget
  have HM := Lib.hid hm
  have HV := Lib.hid hv
  have HR := Lib.hid hr
  have HB := Lib.hid hb
  have HS := Lib.hid hshow
  have HR1 := Lib.hid hR1
  have HR2 := Lib.hid hR2
  clear hm hv hr hb hshow hR1 hR2
  cases hbit : Bits.bit xs i
  · rw [hbit] at hget
    have HG := Lib.hid hget
    have HBIT := Lib.hid hbit
    clear hget hbit
    go_enter Try.func78, Try.ntmps78
    go_wp2_with fail
    refine HG.out.mono ?_
    rintro e w2 ⟨rfl, k, rfl⟩
    go_wp2
    go_ret
    exact ⟨rfl, HR.out, cb, cs, hsz, below_draws HB.out k, v, HM.out, by rw [Bits.ons_off HBIT.out]; exact HR1.out _ _ _ k HV.out⟩
  · rw [hbit] at hget
    have HG := Lib.hid hget
    have HBIT := Lib.hid hbit
    clear hget hbit
    go_enter Try.func78, Try.ntmps78
    go_wp2_with fail
    refine HG.out.mono ?_
    rintro e w2 ⟨rfl, k, rfl⟩
    go_wp2_with fail
    refine (HS.out i (w.drewN k) v _ (by omega) (Bits.ons_len xs i) HM.out (HR1.out _ _ _ k HV.out) hsz).mono ?_
    rintro e w3 ⟨rfl, v', wm, rfl, hbm, hv'⟩
    have HBM := Lib.hid hbm
    have HV' := Lib.hid hv'
    clear hbm hv'
    go_wp2
    go_ret
    have hb2 : Below base w wm := (below_draws (Below.refl base w) k).trans HBM.out
    have hm2 : wm.heap[Bm]? = some (.cells #[v] t (0, 0)) := (HBM.out.block Bm h2).trans HM.out
    have hb3 : Below B w (wm.setCell ⟨Bm, 0, none⟩ v') := (hb2.mono h7).setCell h1 _
    refine ⟨rfl, bytes_keep HR.out hb3, ?_, ?_, ?_, HB.out.trans hb3, v', one_setCell hm2, ?_⟩
    · exact (World.cell?_setCell_other wm ⟨Bm, 0, none⟩ ⟨Bb, 0, none⟩ _ (fun h => h5 (by cases h; rfl))).trans ((hb2.cell h3).trans cb)
    · exact (World.cell?_setCell_other wm ⟨Bm, 0, none⟩ ⟨Bs, 0, none⟩ _ (fun h => h6 (by cases h; rfl))).trans ((hb2.cell h4).trans cs)
    · exact Nat.le_trans hsz (Nat.le_trans hb2.size (Nat.le_of_eq (by simp [World.setCell])))
    · rw [Bits.ons_on HBIT.out]
      exact HR2.out _ _ _ _ HV'.out
end

section
end

theorem walk_count (A : Option Addr) (n c B Bm : Nat) (xs : List UInt8) (t : TypeId) (R : World → Value → List Int → Prop) (v : Value) (w : World)
    (hn : n ≤ 1000000000) (hr : Bytes w B A n xs) (h1 : B ≤ Bm) (hm : w.heap[Bm]? = some (.cells #[v] t (0, 0))) (hv : ∀ w, R w v [])
    (hR1 : ∀ w v zs k, R w v zs → R (w.drewN k) v zs) (hR2 : ∀ w v zs u, R w v zs → R (w.setCell ⟨Bm, 0, none⟩ u) v zs)
    (hshow : ∀ (i : Nat) w' v zs, i ≤ 8000000000 → zs.length ≤ i → w'.heap[Bm]? = some (.cells #[v] t (0, 0)) → R w' v zs → w.heap.size + 2 ≤ w'.heap.size →
      Calls Try.prog 61 #[.int .i64 (i : Int), .pointer (some ⟨Bm, 0, none⟩)] w' fun e w'' => e = .returned (.tuple #[]) ∧ ∃ v' wm, w'' = wm.setCell ⟨Bm, 0, none⟩ v' ∧ Below (w.heap.size + 2) w' wm ∧ R wm v' (zs ++ [(i : Int)])) :
    Calls Try.prog 60 #[.slice A n c, .func (.func 61) #[] #[.pointer (some ⟨Bm, 0, none⟩)]] w fun e w' => e = .returned (.tuple #[]) ∧ Below B w w' ∧ ∃ v', w'.heap[Bm]? = some (.cells #[v'] t (0, 0)) ∧ R w' v' (Bits.ons xs (8 * n)) := by
  have hlt := lt_of_block hm
  have hmf : ∀ (fn : Fn) (first cap : Array Value) (w : World), (Instr.makeFunc fn first cap).run Try.prog w = .ok (.func fn first cap) w := fun _ _ _ _ => rfl
  obtain ⟨X, hX⟩ : ∃ X, X = (w.alloc (.cells #[.slice A n c] 35)).alloc (.cells #[.func (.func 61) #[] #[.pointer (some ⟨Bm, 0, none⟩)]] 90) := ⟨_, rfl⟩
  have hb1 := (Below.refl w.heap.size w).alloc (Nat.le_refl _) (.cells #[.slice A n c] 35)
  have hb2 : Below w.heap.size w X := by rw [hX]; exact hb1.alloc hb1.size _
  have hsz : X.heap.size = w.heap.size + 2 := by rw [hX]; simp
  have cb : X.cell? ⟨w.heap.size, 0, none⟩ = some (.slice A n c) := by rw [hX, World.cell?_alloc_past _ _ _ (by simp)]; simp [World.cell?_alloc_at]
  have cs : X.cell? ⟨w.heap.size + 1, 0, none⟩ = some (.func (.func 61) #[] #[.pointer (some ⟨Bm, 0, none⟩)]) := by
    rw [hX, show w.heap.size + 1 = (w.alloc (.cells #[.slice A n c] 35)).heap.size by simp]
    simp [World.cell?_alloc_at]
  have hs0 : Seen w B (w.heap.size + 2) w.heap.size (w.heap.size + 1) Bm A n c xs t (.func (.func 61) #[] #[.pointer (some ⟨Bm, 0, none⟩)]) R 0 X :=
    ⟨bytes_keep hr (hb2.mono (by omega)), cb, cs, by omega, hb2.mono (by omega), v, (hb2.block Bm hlt).trans hm, hv _⟩
  have hcall := visit_on (.pointer (some ⟨w.heap.size, 0, none⟩)) (.pointer (some ⟨w.heap.size + 1, 0, none⟩)) 0 (8 * (n : Int)) (by omega)
    (fun i wr => ∃ k : Nat, i = (k : Int) ∧ Seen w B (w.heap.size + 2) w.heap.size (w.heap.size + 1) Bm A n c xs t (.func (.func 61) #[] #[.pointer (some ⟨Bm, 0, none⟩)]) R k wr) (fun _ => False) X ⟨0, rfl, hs0⟩
    (by
      rintro i wr hi1 hi2 ⟨k, rfl, hs⟩
      refine (on_count w B (w.heap.size + 2) w.heap.size (w.heap.size + 1) Bm A n c xs t R hn h1 (by omega) (by omega) (by omega) (by omega) (by omega) (by omega) hR1 hR2 hshow k (by omega) wr hs).mono ?_
      rintro e w' ⟨rfl, hs'⟩
      exact ⟨true, rfl, fun _ => ⟨k + 1, by simp, hs'⟩, fun h => by simp at h⟩) (by omega)
  have HC := Lib.hid hcall
  have HX := Lib.hid hX
  clear hcall hX hs0 cb cs hb1 hb2 hsz hm hv hR1 hR2 hshow hr hlt h1
  go_enter Try.func60, Try.ntmps60
  go_wp2_with fail
  refine (room_any A n c _ (by omega)).mono ?_
  rintro e w2 ⟨rfl, hw⟩; subst w2
  go_wp2_with fail
  rw [← HX.out]
  refine HC.out.mono ?_
  rintro e w2 ⟨rfl, hp⟩
  have HP := Lib.hid hp
  clear hp
  go_wp2
  go_end0
  obtain ⟨i, hi1, hi2, hi3, k, hk, hs⟩ | h := HP.out
  · obtain rfl : k = 8 * n := by omega
    exact ⟨rfl, hs.below, hs.got⟩
  · exact h.elim

theorem count_any (A : Option Addr) (n c B : Nat) (xs : List UInt8) (w : World) (hn : n ≤ 1000000000) (hr : Bytes w B A n xs) (hB : B ≤ w.heap.size) :
    Calls Try.prog 25 #[.slice A n c] w fun e w' => e = .returned (.int .i64 ((Bits.ons xs (8 * n)).length : Int)) ∧ Below w.heap.size w w' := by
  have hmf : ∀ (fn : Fn) (first cap : Array Value) (w : World), (Instr.makeFunc fn first cap).run Try.prog w = .ok (.func fn first cap) w := fun _ _ _ _ => rfl
  obtain ⟨X, hX⟩ : ∃ X, X = w.alloc (.cells #[.int .i64 0] 3) := ⟨_, rfl⟩
  have hb1 : Below w.heap.size w X := by rw [hX]; exact (Below.refl w.heap.size w).alloc (Nat.le_refl _) _
  have hm : X.heap[w.heap.size]? = some (.cells #[.int .i64 0] 3 (0, 0)) := by rw [hX]; exact heap_alloc_new _ _
  have hcall := walk_count A n c w.heap.size w.heap.size xs 3 (fun _ v zs => v = .int .i64 (zs.length : Int)) (.int .i64 0) X hn (bytes_keep (bytes_more hr hB) hb1) (Nat.le_refl _) hm (fun _ => rfl) (fun _ _ _ _ h => h) (fun _ _ _ _ h => h)
    (by
      rintro i w' v zs hi hzs hm rfl _
      refine (count_show i (zs.length : Int) w.heap.size _ w' (by omega) (by omega) hm).mono ?_
      rintro e w'' ⟨rfl, rfl⟩
      exact ⟨rfl, _, w', rfl, Below.refl _ _, by simp⟩)
  have HC := Lib.hid hcall
  have HX := Lib.hid hX
  have HB := Lib.hid hb1
  clear hcall hX hm hb1 hr hB
  go_enter Try.func25, Try.ntmps25
  go_wp2_with fail
  rw [← HX.out]
  refine HC.out.mono ?_
  rintro e w2 ⟨rfl, hb, v', hm, rfl⟩
  have hc := cell_of_one hm
  have HB2 := Lib.hid (HB.out.trans hb)
  clear hm hb
  go_wp2
  go_ret
  exact ⟨rfl, HB2.out⟩

end Go.Proofs.Ytpheblblkkclbaa.BitsPkg
