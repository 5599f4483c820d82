/-
  What Split does, package gate's and the document's, for every input.
-/
import Derived.Test.YtldomhghkfbbkaaChecked
import Derived.Test.YtldomhghkfbbkaaGateMath
import Derived.Lib.Hide
import Derived.OpenShut
namespace Go.Proofs.Ytldomhghkfbbkaa.GatePkg
open Go.RowKit Gate Lib
set_option maxRecDepth 4000

theorem areRight_any (low high many : Int) (w : World) : Calls Try.prog 19 #[.int .i64 low, .int .i64 high, .int .i64 many] w fun e w' => e = .returned (.bool (ok low high many)) ∧ w' = w := by
  by_cases h1 : 0 ≤ low
  · by_cases h2 : low < high
    · by_cases h3 : high ≤ 4096
      · by_cases h4 : 0 ≤ many
        · have HB := Lib.hid (show ok low high many = decide (many ≤ 256) by simp [ok, h1, h2, h3, h4])
          go_enter Try.func19, Try.ntmps19
          go_wp2
          go_ret
          exact ⟨by rw [HB.out]; rfl, rfl⟩
        · have HB := Lib.hid (show ok low high many = false by simp [ok, h4])
          go_enter Try.func19, Try.ntmps19
          go_wp2
          go_ret
          exact ⟨by rw [HB.out]; rfl, rfl⟩
      · have HB := Lib.hid (show ok low high many = false by simp [ok, h3])
        go_enter Try.func19, Try.ntmps19
        go_wp2
        go_ret
        exact ⟨by rw [HB.out]; rfl, rfl⟩
    · have HB := Lib.hid (show ok low high many = false by simp [ok, h2])
      go_enter Try.func19, Try.ntmps19
      go_wp2
      go_ret
      exact ⟨by rw [HB.out]; rfl, rfl⟩
  · have HB := Lib.hid (show ok low high many = false by simp [ok, h1])
    go_enter Try.func19, Try.ntmps19
    go_wp2
    go_ret
    exact ⟨by rw [HB.out]; rfl, rfl⟩

theorem Split_any (free low high many : Int) (w : World) : Calls Try.prog 9 #[.int .i64 free, .int .i64 low, .int .i64 high, .int .i64 many] w
    fun e w' => e = .returned (.tuple #[.int .i64 (fst free low high many), .int .i64 (snd free low high many)]) ∧ w' = w := by
  have HR := Lib.hid (areRight_any low high many w)
  rcases hok : ok low high many with _ | _
  · obtain ⟨e1, e2⟩ := bad (free := free) hok
    rw [e1, e2]
    rw [hok] at HR
    clear e1 e2 hok
    go_enter Try.func9, Try.ntmps9
    go_wp2_with (refine HR.out.mono ?_; rintro e w' ⟨rfl, rfl⟩)
    go_ret2
    exact ⟨rfl, rfl⟩
  · rw [hok] at HR
    have hb := (ok_iff _ _ _).1 hok
    obtain ⟨m, hm⟩ : ∃ m, m = if high < (if free < low then low else free) then high else (if free < low then low else free) := ⟨_, rfl⟩
    obtain ⟨g1, g2, g3⟩ := held hok hm
    have g4 := mid_bounds hok g1 g2
    have g5 := all hok (free := free)
    generalize fst free low high many = x at g3 g5 ⊢
    generalize snd free low high many = y at g5 ⊢
    obtain ⟨m1, hm1⟩ : ∃ m1, (if free < low then low else free) = m1 := ⟨_, rfl⟩
    rw [hm1] at hm
    obtain ⟨d, hd⟩ : ∃ d, m - low = d := ⟨_, rfl⟩
    obtain ⟨q, hq⟩ : ∃ q, high - low = q := ⟨_, rfl⟩
    obtain ⟨p, hp⟩ : ∃ p, many * d = p := ⟨_, rfl⟩
    rw [hd, hp, hq] at g4
    rw [hd, hp, hq] at g3
    have k1 : IntKind.i64.wrap (m - low) = d := by rw [IntKind.wrap_i64]; omega
    have k2 : IntKind.i64.wrap (many * d) = p := by rw [hp, IntKind.wrap_i64]; omega
    have k3 : IntKind.i64.wrap (high - low) = q := by rw [IntKind.wrap_i64]; omega
    have k4 : Int.tdiv p q = x := by rw [Int.tdiv_eq_ediv_of_nonneg g4.1, g3]
    have k5 : IntKind.i64.wrap x = x := by rw [IntKind.wrap_i64]; omega
    have k6 : IntKind.i64.wrap (many - x) = y := by rw [IntKind.wrap_i64]; omega
    have k7 : ¬ q = 0 := by omega
    have hm2 := hm.symm
    clear g1 g2 g3 g4 g5 hb hok hm hd hq hp
    go_enter Try.func9, Try.ntmps9
    go_wp2_with (refine HR.out.mono ?_; rintro e w' ⟨rfl, rfl⟩)
    go_ret2
    exact ⟨rfl, rfl⟩

/-- The document's loop: one more as long as its share is not above. -/
theorem rSplit_any (free low high many : Int) (w : World) (hf0 : -9223372036854775808 ≤ free) (hf1 : free ≤ 9223372036854775807) : Calls Try.prog 10 #[.int .i64 free, .int .i64 low, .int .i64 high, .int .i64 many] w
    fun e w' => e = .returned (.tuple #[.int .i64 (fst free low high many), .int .i64 (snd free low high many)]) ∧ w' = w := by
  rcases hok : ok low high many with _ | _
  · obtain ⟨e1, e2⟩ := bad (free := free) hok
    rw [e1, e2]
    have hn : ¬ (0 ≤ low ∧ low < high ∧ high ≤ 4096 ∧ 0 ≤ many ∧ many ≤ 256) := fun h => by
      rw [(ok_iff _ _ _).2 h] at hok
      exact Bool.noConfusion hok
    clear e1 e2 hok
    by_cases h1 : low < 0
    · clear hn
      go_enter Try.func10, Try.ntmps10
      go_wp2
      go_ret2
      exact ⟨rfl, rfl⟩
    · by_cases h2 : high ≤ low
      · clear hn
        go_enter Try.func10, Try.ntmps10
        go_wp2
        go_ret2
        exact ⟨rfl, rfl⟩
      · by_cases h3 : high > 4096
        · clear hn
          go_enter Try.func10, Try.ntmps10
          go_wp2
          go_ret2
          exact ⟨rfl, rfl⟩
        · by_cases h4 : many < 0
          · clear hn
            go_enter Try.func10, Try.ntmps10
            go_wp2
            go_ret2
            exact ⟨rfl, rfl⟩
          · have h5 : many > 256 := by omega
            clear hn
            go_enter Try.func10, Try.ntmps10
            go_wp2
            go_ret2
            exact ⟨rfl, rfl⟩
  · obtain ⟨a1, a2, a3, a4, a5⟩ := (ok_iff _ _ _).1 hok
    have b1 : decide (low < 0) = false := by simp; omega
    have b2 : decide (high ≤ low) = false := by simp; omega
    have b3 : decide (4096 < high) = false := by simp; omega
    have b4 : decide (many < 0) = false := by simp; omega
    have b5 : decide (256 < many) = false := by simp; omega
    by_cases h1 : free ≤ low
    · obtain ⟨e1, e2⟩ := low_case hok h1
      rw [e1, e2]
      clear e1 e2 hok
      go_enter Try.func10, Try.ntmps10
      go_wp2
      go_ret2
      exact ⟨rfl, rfl⟩
    · by_cases h2 : high ≤ free
      · obtain ⟨e1, e2⟩ := high_case hok h2
        rw [e1, e2]
        clear e1 e2 hok
        go_enter Try.func10, Try.ntmps10
        go_wp2
        go_ret2
        exact ⟨rfl, rfl⟩
      · have hb := bounds hok (free := free)
        have hall := all hok (free := free)
        have hmid := mid_bounds hok (free := free) (by omega) (by omega)
        have HMO := Lib.hid (fun n (hlt : n < fst free low high many) => more hok (free := free) (by omega) (by omega) hlt)
        have HLA := Lib.hid (last hok (free := free) (by omega) (by omega) (n := fst free low high many) rfl)
        generalize fst free low high many = x at *
        generalize snd free low high many = y at *
        obtain ⟨q, hq⟩ : ∃ q, high - low = q := ⟨_, rfl⟩
        obtain ⟨d, hd⟩ : ∃ d, free - low = d := ⟨_, rfl⟩
        obtain ⟨p, hp⟩ : ∃ p, many * d = p := ⟨_, rfl⟩
        rw [hq, hd, hp] at HMO HLA
        rw [hq, hd, hp] at hmid
        have k1 : IntKind.i64.wrap (free - low) = d := by rw [IntKind.wrap_i64]; omega
        have k2 : IntKind.i64.wrap (many * d) = p := by rw [hp, IntKind.wrap_i64]; omega
        have k3 : IntKind.i64.wrap (high - low) = q := by rw [IntKind.wrap_i64]; omega
        have k6 : IntKind.i64.wrap (many - x) = y := by rw [IntKind.wrap_i64]; omega
        obtain ⟨X, rfl⟩ : ∃ X : Nat, x = X := ⟨x.toNat, by omega⟩
        have HY := Lib.hid (show many - X = y by omega)
        have HQ := Lib.hid (show 0 < q ∧ q ≤ 4096 by omega)
        have HX := Lib.hid (show (X : Int) ≤ many ∧ many ≤ 256 by omega)
        have HP := Lib.hid (show p ≤ 1048576 by omega)
        clear hq hd hp hall hmid hb hok
        go_enter Try.func10, Try.ntmps10
        go_wp2_with fail
        go_loopw [10] (fun v wr => ∃ t : Nat, v = .int .i64 (t : Int) ∧ t ≤ X ∧ wr = w) (fun v _ => X - (intOf v).toNat)
        case atStart => exact ⟨0, rfl, by omega, rfl⟩
        case round =>
          obtain ⟨t, rfl, htX, rfl⟩ := hrel
          have hw1 : IntKind.i64.wrap ((t : Int) + 1) = (t : Int) + 1 := by have := HX.out; rw [IntKind.wrap_i64]; omega
          obtain ⟨u, hu⟩ : ∃ u, ((t : Int) + 1) * q = u := ⟨_, rfl⟩
          by_cases hlt : t < X
          · have h3 := HMO.out (t : Int) (by omega)
            have h4 : 0 ≤ ((t : Int) + 1) * q := Int.mul_nonneg (by omega) (by have := HQ.out; omega)
            rw [hu] at h3 h4
            have hw2 : IntKind.i64.wrap (((t : Int) + 1) * q) = u := by rw [hu, IntKind.wrap_i64]; have := HP.out; omega
            have b6 : decide ((t : Int) < many) = true := by simp; omega
            have b7 : decide (u ≤ p) = true := by simp; omega
            clear h3 h4 hu
            go_wp2
            go_roundw
            case rel => exact ⟨t + 1, rfl, by omega, trivial⟩
            case measure => simp [intOf]; omega
          · have htX2 : t = X := by omega
            subst htX2
            have h3 := HLA.out
            by_cases hm : (t : Int) < many
            · have h4 : 0 ≤ ((t : Int) + 1) * q ∧ ((t : Int) + 1) * q ≤ 257 * 4096 := by
                have h5 := HQ.out
                have h6 := HX.out
                exact ⟨Int.mul_nonneg (by omega) (by omega), Int.mul_le_mul (by omega) h5.2 (by omega) (by omega)⟩
              rw [hu] at h3 h4
              have hw2 : IntKind.i64.wrap (((t : Int) + 1) * q) = u := by rw [hu, IntKind.wrap_i64]; omega
              have b6 : decide ((t : Int) < many) = true := by simp; omega
              have b7 : decide (u ≤ p) = false := by simp; omega
              clear h3 h4 hu
              go_wp2
              go_ret2
              exact ⟨rfl, rfl⟩
            · have b6 : decide ((t : Int) < many) = false := by simp; omega
              clear h3 hu
              go_wp2
              go_ret2
              exact ⟨rfl, rfl⟩

end Go.Proofs.Ytldomhghkfbbkaa.GatePkg
