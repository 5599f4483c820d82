/-
  What every law of layer 4 needs: the small call that each of them makes first.
-/
import Derived.Test.YtknkeghidhfmmaaBitsMake1
import Derived.Test.YtknkeghidhfmmaaLawKit
namespace Go.Proofs.Ytknkeghidhfmmaa.BitsPkg
open Go.RowKit Go.ChangeShapes Go.WideShapes
set_option maxRecDepth 4000

theorem below_on {a w w' : World} (h : Below a.heap.size a w) (hb : Below w.heap.size w w') : Below a.heap.size a w' := h.trans (hb.mono h.size)

theorem bytes_on {a w w' : World} {A : Option Addr} {n : Nat} {xs : List UInt8} (h : Bytes w a.heap.size A n xs) (hs : a.heap.size ≤ w.heap.size) (hb : Below w.heap.size w w') : Bytes w' a.heap.size A n xs := bytes_keep h (hb.mono hs)

theorem get_is (A : Option Addr) (n c B : Nat) (xs : List UInt8) (i : Int) (w : World) (hn : n ≤ 1000000000000) (hr : Bytes w B A n xs) :
    Calls Try.prog 17 #[.slice A n c, .int .i64 i] w fun e w' => e = .returned (.bool (Bits.get xs i)) ∧ Below w.heap.size w w' :=
  (get_any A n c B xs i w hn hr).mono fun e w' ⟨he, k, hk⟩ => ⟨he, by subst hk; exact below_draws (Below.refl _ _) k⟩

/-- Set in its range, as a slice that reads. -/
theorem set_is (A : Option Addr) (n c B : Nat) (xs : List UInt8) (i : Nat) (on : Bool) (w : World) (hn : n ≤ 1000000000000) (hr : Bytes w B A n xs) (hB : B ≤ w.heap.size) (h1 : i < 8 * n) :
    Calls Try.prog 15 #[.slice A n c, .int .i64 (i : Int), .bool on] w fun e w' => ∃ A', e = .returned (.tuple #[.slice A' n n, .bool true]) ∧ Bytes w' w'.heap.size A' n (Bits.put_at xs i on) ∧ Below w.heap.size w w' := by
  refine (set_in A n c B xs i on w hn hr hB h1).mono ?_
  rintro e w' ⟨rfl, ho, hb⟩
  obtain ⟨A2, c2, hv, hr2⟩ := ho.reads
  injection hv with hv3 hv4 hv5
  subst hv3
  rw [← hv4] at hr2
  exact ⟨_, rfl, hr2, hb⟩

set_option maxHeartbeats 400000 in
theorem awake_any (w : World) :
    Calls Try.prog 10 #[] w fun e w' => e = .returned (.bool true) ∧ Below w.heap.size w w' := by
  go_enter Try.func10, Try.ntmps10
  go_wp2_with fail
  refine (make_any 9 w).mono ?_
  rintro e w1 ⟨v1, rfl, ho1, hb1⟩
  have hl : (List.replicate (Bits.size 9) (0 : UInt8)) = [0, 0] := by decide
  rw [hl] at ho1
  obtain ⟨A1, c1, rfl, hr1⟩ := ho1.reads
  have HB1 := Lib.hid hb1
  have HR1 := Lib.hid hr1
  clear ho1 hb1 hr1 hl
  go_wp2_with fail
  refine (set_in A1 2 c1 w1.heap.size [0, 0] 8 true w1 (by omega) HR1.out (Nat.le_refl _) (by omega)).mono ?_
  rintro e w2 ⟨rfl, ho2, hb2⟩
  have hl : Bits.put_at [0, 0] 8 true = [0, 1] := by decide +kernel
  rw [hl] at ho2
  obtain ⟨A2, c2, hv2, hr2⟩ := ho2.reads
  injection hv2 with hv3 hv4 hv5
  subst hv3
  have hs1 := run_str (P := Try.prog) w2 22 9 5 Try.underlying22 Try.underlying5 Try.underlying9 (c := 2) hr2
  have HB := Lib.hid (below_on HB1.out hb2)
  have hs1' : (convert 22 9 (.slice (some ⟨w1.heap.size, 0, none⟩) 2 2)).run Try.prog w2 = .ok (.string ⟨#[0, 1]⟩) w2 := hs1
  clear ho2 hr2 hb2 hs1 hl hv4 hv5 HR1 HB1
  go_wp2
  go_ret
  exact ⟨rfl, HB.out⟩

end Go.Proofs.Ytknkeghidhfmmaa.BitsPkg
