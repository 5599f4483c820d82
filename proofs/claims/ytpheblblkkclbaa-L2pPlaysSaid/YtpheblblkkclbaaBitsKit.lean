/-
  What every law of layer 4 needs: the small call that each of them makes first.
-/
import Derived.Test.YtpheblblkkclbaaBitsMake1
import Derived.Test.YtpheblblkkclbaaLawKit
namespace Go.Proofs.Ytpheblblkkclbaa.BitsPkg
open Go.RowKit Go.ChangeShapes Go.WideShapes
set_option maxRecDepth 4000

theorem below_on {a w w' : World} (h : Below a.heap.size a w) (hb : Below w.heap.size w w') : Below a.heap.size a w' := h.trans (hb.mono h.size)

theorem bytes_on {a w w' : World} {A : Option Addr} {n : Nat} {xs : List UInt8} (h : Bytes w a.heap.size A n xs) (hs : a.heap.size ≤ w.heap.size) (hb : Below w.heap.size w w') : Bytes w' a.heap.size A n xs := bytes_keep h (hb.mono hs)

theorem get_is (A : Option Addr) (n c B : Nat) (xs : List UInt8) (i : Int) (w : World) (hn : n ≤ 1000000000000) (hr : Bytes w B A n xs) :
    Calls Try.prog 22 #[.slice A n c, .int .i64 i] w fun e w' => e = .returned (.bool (Bits.get xs i)) ∧ Below w.heap.size w w' :=
  (get_any A n c B xs i w hn hr).mono fun e w' ⟨he, k, hk⟩ => ⟨he, by subst hk; exact below_draws (Below.refl _ _) k⟩

/-- Set in its range, as a slice that reads. -/
theorem set_is (A : Option Addr) (n c B : Nat) (xs : List UInt8) (i : Nat) (on : Bool) (w : World) (hn : n ≤ 1000000000000) (hr : Bytes w B A n xs) (hB : B ≤ w.heap.size) (h1 : i < 8 * n) :
    Calls Try.prog 36 #[.slice A n c, .int .i64 (i : Int), .bool on] w fun e w' => ∃ A', e = .returned (.tuple #[.slice A' n n, .bool true]) ∧ Bytes w' w'.heap.size A' n (Bits.put_at xs i on) ∧ Below w.heap.size w w' := by
  refine (set_in A n c B xs i on w hn hr hB h1).mono ?_
  rintro e w' ⟨rfl, ho, hb⟩
  obtain ⟨A2, c2, hv, hr2⟩ := ho.reads
  injection hv with hv3 hv4 hv5
  subst hv3
  rw [← hv4] at hr2
  exact ⟨_, rfl, hr2, hb⟩

end Go.Proofs.Ytpheblblkkclbaa.BitsPkg
