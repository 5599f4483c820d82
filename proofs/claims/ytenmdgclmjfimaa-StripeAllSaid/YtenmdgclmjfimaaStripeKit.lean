/-
  What every law of layer 9 needs: the small calls that each of them makes first.
-/
import Derived.Test.YtenmdgclmjfimaaStripeLeft
import Derived.Test.YtenmdgclmjfimaaStripeRef
import Derived.Test.YtenmdgclmjfimaaStructs
import Derived.Test.YtenmdgclmjfimaaLawKit
namespace Go.Proofs.Ytenmdgclmjfimaa.StripePkg
open Go.RowKit Go.ChangeShapes Go.WideShapes Stripe
set_option maxRecDepth 4000

theorem nums_one (w : World) (z : Int) (e : TypeId) (h0 : -9223372036854775808 ≤ z) (h1 : z ≤ 9223372036854775807) : Nums (w.alloc (.cells #[.int .i64 z] e)) (w.heap.size + 1) (some ⟨w.heap.size, 0, none⟩) 1 [z] := by
  refine ⟨rfl, fun i hi => ?_⟩
  have hi0 : i = 0 := by simpa using hi
  subst hi0
  exact ⟨h0, h1, w.heap.size, 0, rfl, Nat.lt_succ_self _, by simp⟩

/-- There is always an answer. -/
theorem nxt_is (f : Int → Bool) (a M : Int) : ∃ r, Nxt f a M r := by
  obtain ⟨n, hn⟩ : ∃ n : Nat, n = (M - a).toNat := ⟨_, rfl⟩
  induction n generalizing a with
  | zero => exact ⟨-1, Or.inl ⟨rfl, fun i h1 h2 => by omega⟩⟩
  | succ n ih =>
    cases hf : f a with
    | true => exact ⟨a, Or.inr ⟨by omega, by omega, hf, fun i h1 h2 => by omega⟩⟩
    | false =>
      have go : ∀ i, a ≤ i → ¬ a + 1 ≤ i → f i = false := fun i h1 h2 => by rw [show i = a by omega]; exact hf
      obtain ⟨r, hr⟩ := ih (a + 1) (by omega)
      rcases hr with ⟨e, h1⟩ | ⟨h1, h2, h3, h4⟩
      · exact ⟨r, Or.inl ⟨e, fun i g1 g2 => (Decidable.em (a + 1 ≤ i)).elim (fun h => h1 i h g2) (go i g1)⟩⟩
      · exact ⟨r, Or.inr ⟨by omega, h2, h3, fun i g1 g2 => (Decidable.em (a + 1 ≤ i)).elim (fun h => h4 i h g2) (go i g1)⟩⟩

theorem two_is {r : Int} (h : Nxt (live [1] 2) (max 1 0) (2 * 3) r) : r = 2 := by
  refine h.one (Or.inr ⟨by decide, by decide, by decide, fun i h1 h2 => ?_⟩)
  have : i = 1 := by omega
  subst this
  decide

theorem awake_any (w : World) :
    Calls Try.prog 9 #[] w fun e w' => e = .returned (.bool true) ∧ Below w.heap.size w w' := by
  have hz : Geom.Sizes 2 1 1 3 1 2 2 6 6 := Geom.sizes (by decide)
  have HS := Lib.hid (fun w => Spot_in hz 3 (by decide) (by decide) w)
  rw [show (3 : Int) % 2 = 1 by decide, show (3 : Int) / 2 = 1 by decide] at HS
  have HN := Lib.hid (fun w A B (hn : Nums w B A 1 [1]) (hB : B ≤ w.heap.size) => Next_ok hz A 1 1 B [1] 1 w (by decide) hn hB)
  have HB := Lib.hid ((Below.refl w.heap.size w).alloc (Nat.le_refl _) (.cells #[.int .i64 2, .int .i64 1, .int .i64 1, .int .i64 3, .int .i64 1] 23))
  have HG := Lib.hid (geo_new w 23 2 1 1 3 1)
  clear hz
  go_enter Try.func9, Try.ntmps9
  go_wp2_with fail
  refine (HS.out _).mono ?_
  rintro e w2 ⟨rfl, hb⟩
  replace HB := Lib.hid (below_then HB.out hb)
  replace HG := Lib.hid (geo_keep HG.out hb)
  obtain ⟨k0, k1, k2, k3, k4⟩ := HG.out
  clear hb
  go_wp2_with fail
  have hbx : Below w2.heap.size w2 (w2.alloc (.cells #[.int .i64 1] 3)) := (Below.refl _ _).alloc (Nat.le_refl _) _
  refine (HN.out _ _ _ (nums_one w2 1 3 (by decide) (by decide)) (by simp)).mono ?_
  rintro e w3 ⟨r, rfl, hr, hb⟩
  have hr2 := two_is hr
  subst hr2
  replace HB := Lib.hid (below_then (below_then HB.out hbx) hb)
  clear hb hbx hr
  go_wp2
  go_ret
  exact ⟨rfl, HB.out⟩

end Go.Proofs.Ytenmdgclmjfimaa.StripePkg
