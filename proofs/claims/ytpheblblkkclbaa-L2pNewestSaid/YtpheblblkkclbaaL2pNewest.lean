/-
  L2pNewest holds: of entries that are set, in whatever order, the one with the greatest stamp is in the end a sector's; for every list of stamps and every turn. No condition.
-/
import Derived.Test.YtpheblblkkclbaaL2pKit
import Derived.Test.YtpheblblkkclbaaLawKit
import Derived.OpenShut
import Derived.Test.YtpheblblkkclbaaNums
namespace Go.Proofs.Ytpheblblkkclbaa.l2pNewest
open Go.RowKit Go.ChangeShapes Go.WideShapes L2p L2pPkg L2pLaw
open Nand (Shape)
set_option maxRecDepth 4000

theorem cells3 {w : World} {b : Nat} {x y z : Value} {t : TypeId} (h : w.heap[b]? = some (.cells #[x, y, z] t (0, 0))) : w.cell? ⟨b, 0, none⟩ = some x ∧ w.cell? ⟨b, 1, none⟩ = some y ∧ w.cell? ⟨b, 2, none⟩ = some z := by
  refine ⟨?_, ?_, ?_⟩ <;> simp [World.cell?, h]

/-- The device: eight lines of 64 sectors. -/
def dev : Shape := ⟨4, 2, 8, 8, 1, 8, 8, 64, 512⟩
theorem dev_ok : dev.Ok := ⟨by unfold Geom.ok; decide, rfl, rfl, rfl, rfl, by decide, by decide, by decide, by decide, by decide, by decide, by decide, by decide⟩

/-- Sector 7 alone. -/
def one (e : Ent) : St := fun k => if k = 7 then e else off
theorem one_off : (fun _ => off) = one off := by
  funext k
  unfold one
  split <;> rfl
theorem put_one (e e' : Ent) : put (one e) 7 e' = one e' := by
  funext k
  unfold put one
  by_cases h : k = 7 <;> simp [h]
theorem one_7 (e : Ent) : one e 7 = e := rfl
theorem who_one (e : Ent) (n : Nat) {a : Int} (h : 0 ≤ a) : who (one e) n a = -1 ∨ who (one e) n a = ((7 : Nat) : Int) := by
  rcases who_cases (one e) n a with h1 | ⟨i, _, h2, h3⟩
  · exact .inl h1.1
  · refine .inr ?_
    by_cases e7 : i = 7
    · rw [h2, e7]
    · have : (one e i).a = -1 := by unfold one; rw [if_neg e7]; rfl
      omega
theorem many_one {e : Ent} (h : e.a ≠ -1) : many (one e) 10 = 1 := by
  have h7 : (one e 7).a ≠ -1 := h
  have h0 : ∀ i, i ≠ 7 → (one e i).a = -1 := fun i hi => by unfold one; rw [if_neg hi]; rfl
  simp only [many_succ, h0 0 (by decide), h0 1 (by decide), h0 2 (by decide), h0 3 (by decide), h0 4 (by decide), h0 5 (by decide), h0 6 (by decide), h0 8 (by decide), h0 9 (by decide), if_neg h7, if_true]
  rfl

theorem Set_older {n : Nat} {G : Shape} {a w : World} {gd : Nat} {st : St} {sd : List (Nat × Obj)} (hG : G.Ok) (h : Mine G n a gd st sd w) (i : Nat) (hi : i < n) (e : Ent) (hr : right G.N e) (ho : who st n e.a = -1 ∨ who st n e.a = i) (hs : e.s ≤ (st i).s) :
    Calls Try.prog 19 #[ptr gd 0, .int .i64 (i : Int), entV e] w fun x w' => x = .returned (setV false 0) ∧ Mine G n a gd st sd w' := by
  have e1 : setOk st n G.N i e = 0 := by unfold setOk; rw [if_neg (by omega), if_neg (fun h => h hr), if_neg (by omega)]
  have e2 : setDo st n G.N i e = false := by unfold setDo; rw [e1]; exact decide_eq_false (fun hh => by have := hh.2; rw [Int.toNat_natCast] at this; omega)
  have e3 : setSt st n G.N i e = st := by unfold setSt; rw [e2]; rfl
  have := Set_m hG h i e
  rwa [e1, e2, e3] at this

/-- The place of round i. -/
def at_ (n r i : Nat) : Nat := (i + r) % n
theorem at_one {n r i j : Nat} (hi : i < n) (hj : j < n) (h : at_ n r i = at_ n r j) : i = j := by
  unfold at_ at h
  have h1 := Nat.div_add_mod (i + r) n
  have h2 := Nat.div_add_mod (j + r) n
  rw [h] at h1
  generalize (i + r) / n = q1 at h1
  generalize (j + r) / n = q2 at h2
  generalize (j + r) % n = m at h1 h2
  rcases Nat.lt_trichotomy q1 q2 with hq | hq | hq
  · have : n * (q1 + 1) ≤ n * q2 := Nat.mul_le_mul_left _ hq
    rw [Nat.mul_add] at this
    omega
  · subst hq
    omega
  · have : n * (q2 + 1) ≤ n * q1 := Nat.mul_le_mul_left _ hq
    rw [Nat.mul_add] at this
    omega
theorem at_onto {n r t : Nat} (hr : r < n) (ht : t < n) : ∃ i, i < n ∧ at_ n r i = t := by
  unfold at_
  by_cases h : r ≤ t
  · exact ⟨t - r, by omega, by rw [show t - r + r = t by omega, Nat.mod_eq_of_lt ht]⟩
  · exact ⟨t + n - r, by omega, by rw [show t + n - r + r = t + n by omega, Nat.add_mod_right, Nat.mod_eq_of_lt ht]⟩

/-- The greatest of the first k stamps. -/
def Best (zs : List Int) (k : Nat) (b : Int) : Prop := (∀ t z, t < k → zs[t]? = some z → 1 ≤ z ∧ z ≤ 1125899906842624 ∧ z ≤ b) ∧ (k = 0 ∧ b = 0 ∨ ∃ t, t < k ∧ zs[t]? = some b)
theorem Best.zero (zs : List Int) : Best zs 0 0 := ⟨fun t z h => absurd h (by omega), .inl ⟨rfl, rfl⟩⟩
theorem Best.step {zs : List Int} {k : Nat} {b z : Int} (h : Best zs k b) (hz : zs[k]? = some z) (h1 : 1 ≤ z) (h2 : z ≤ 1125899906842624) : Best zs (k + 1) (max b z) := by
  refine ⟨fun t y ht hy => ?_, ?_⟩
  · by_cases e : t = k
    · rw [e, hz] at hy
      injection hy with hy
      omega
    · have := h.1 t y (by omega) hy
      omega
  · right
    by_cases hb : b ≤ z
    · exact ⟨k, by omega, by rw [hz, Int.max_eq_right hb]⟩
    · rcases h.2 with ⟨h0, h3⟩ | ⟨t, ht, h3⟩
      · omega
      · exact ⟨t, by omega, by rw [h3, Int.max_eq_left (by omega)]⟩

/-- What sector 7 has behind i rounds. -/
def New (zs : List Int) (n r i : Nat) (e : Ent) : Prop := i = 0 ∧ e = off ∨ ∃ j z, j < i ∧ zs[at_ n r j]? = some z ∧ e = ⟨at_ n r j, z, 1⟩ ∧ ∀ t y, t < i → zs[at_ n r t]? = some y → y ≤ z
theorem New.newer {zs : List Int} {n r i : Nat} {e : Ent} {z : Int} (h : New zs n r i e) (hz : zs[at_ n r i]? = some z) (hs : e.s < z) : New zs n r (i + 1) ⟨at_ n r i, z, 1⟩ := by
  refine .inr ⟨i, z, by omega, hz, rfl, fun t y ht hy => ?_⟩
  by_cases e1 : t = i
  · rw [e1, hz] at hy
    injection hy with hy
    omega
  · rcases h with ⟨h0, _⟩ | ⟨j, z', _, _, he, h3⟩
    · omega
    · have := h3 t y (by omega) hy
      rw [he] at hs
      have hs : z' < z := hs
      omega
theorem New.older {zs : List Int} {n r i : Nat} {e : Ent} {z : Int} (h : New zs n r i e) (hz : zs[at_ n r i]? = some z) (hs : z ≤ e.s) (h1 : 1 ≤ z) (hi : i < n) : New zs n r (i + 1) e ∧ e.a ≠ at_ n r i := by
  rcases h with ⟨h0, he⟩ | ⟨j, z', hj, hzj, he, h3⟩
  · rw [he] at hs
    have hs : z ≤ 0 := hs
    omega
  · refine ⟨.inr ⟨j, z', by omega, hzj, he, fun t y ht hy => ?_⟩, fun h => ?_⟩
    · by_cases e1 : t = i
      · rw [e1, hz] at hy
        injection hy with hy
        rw [he] at hs
        have hs : z ≤ z' := hs
        omega
      · exact h3 t y (by omega) hy
    · rw [he] at h
      have h : ((at_ n r j : Nat) : Int) = at_ n r i := h
      have := at_one (r := r) (by omega) hi (show at_ n r j = at_ n r i by omega)
      omega

set_option maxHeartbeats 4000000 in
theorem walk (A : Option Addr) (n c : Nat) (zs : List Int) (turn : Int) (w : World) (hnc : n ≤ c) (hcm : c ≤ maxLen) (hr : Nums w w.heap.size A n zs) (hb0 : -9223372036854775808 ≤ turn) (hb1 : turn ≤ 9223372036854775807) :
    Calls Try.prog 6 #[.slice A n c, .int .i64 turn] w fun e w' => e = .returned (.bool true) ∧ Below w.heap.size w w' := by
  have HZ := Lib.hid hr
  have hn := Nat.le_trans hnc hcm
  clear hr hnc hcm
  unfold maxLen at hn
  go_enter Try.func6, Try.ntmps6
  go_wp2_with fail
  refine (awake_any _).mono ?_
  rintro e1 w1 ⟨rfl, hb⟩
  have hx := hb.alloc hb.size (.cells #[.int .i64 4, .int .i64 2, .int .i64 8, .int .i64 8, .int .i64 1] 23)
  have HB := Lib.hid hx
  clear hb hx
  have HN := Lib.hid (show Calls Try.prog 18 #[.agg #[.int .i64 4, .int .i64 2, .int .i64 8, .int .i64 8, .int .i64 1], .int .i64 10] _ _ from New_m dev_ok w _ HB.out 10 (by omega) (by omega) (by decide))
  go_wp2_with fail
  refine HN.out.mono ?_
  rintro e2 w2 ⟨gd, rfl, h⟩
  have H := Lib.hid h
  clear h HN HB
  by_cases hn0 : n = 0
  · subst hn0
    go_wp2
    go_ret
    exact ⟨rfl, H.out.below⟩
  by_cases hn2 : 200 < n
  · go_wp2
    go_ret
    exact ⟨rfl, H.out.below⟩
  by_cases ht0 : turn < 0
  · go_wp2
    go_ret
    exact ⟨rfl, H.out.below⟩
  have bn0 : ((n : Int) == 0) = false := by simp; omega
  go_wp2
  rw [one_off] at H
  have hlr : (turn % (n : Int)) < n := Int.emod_lt_of_pos _ (by omega)
  have hlr0 : 0 ≤ turn % (n : Int) := Int.emod_nonneg _ (by omega)
  obtain ⟨R, hR⟩ : ∃ R : Nat, turn % (n : Int) = R := Int.eq_ofNat_of_zero_le hlr0
  have hRn : R < n := by omega
  have HR := Lib.hid hR
  clear hlr hlr0 hR
  go_loopw [9, 10] (fun b i wr => ∃ (k : Nat) (z : Int), i = .int .i64 k ∧ b = .int .i64 z ∧ k ≤ n ∧ Best zs k z ∧ 0 ≤ z ∧ z ≤ 1125899906842624 ∧ Mine dev 10 w gd (one off) [] wr) (fun _ i _ => n - (intOf i).toNat)
  case atStart => exact ⟨0, 0, rfl, rfl, by omega, Best.zero zs, by omega, by omega, H.out⟩
  case round =>
    obtain ⟨k, b, rfl, rfl, hk, hbest, hb0', hb1', h⟩ := hrel
    replace H := Lib.hid h
    have HBS := Lib.hid hbest
    clear h hbest
    by_cases hlt : k < n
    · obtain ⟨ad, off', z, rfl, hbl, hzk, hcw, hz0, hz1⟩ := HZ.out.at_ hlt
      have hc := (H.out.below.cell (p := ⟨ad, off' + k, none⟩) hbl).trans hcw
      have HZK := Lib.hid hzk
      clear hcw hzk
      by_cases hs0 : z < 1
      · go_wp2
        go_ret
        exact ⟨rfl, H.out.below⟩
      by_cases hs1 : 1125899906842624 < z
      · go_wp2
        go_ret
        exact ⟨rfl, H.out.below⟩
      have HST := Lib.hid (HBS.out.step HZK.out (by omega) (by omega))
      by_cases hbz : b < z
      · have hmx : max b z = z := Int.max_eq_right (by omega)
        go_wp2
        all_goals go_roundw
        case rel => exact ⟨k + 1, z, by go_num, by go_num, by omega, by have := HST.out; rwa [hmx] at this, by omega, by omega, H.out⟩
        case measure => simp [intOf]; omega
      · have hmx : max b z = b := Int.max_eq_left (by omega)
        go_wp2
        exact ⟨⟨k + 1, b, by go_num, rfl, by omega, by have := HST.out; rwa [hmx] at this, by omega, by omega, H.out⟩, by simp [intOf]; omega⟩
    · obtain rfl : k = n := by omega
      go_wp2
      go_loopw [11, 12, 13, 14, 15, 16] (fun i _ _ _ _ _ wr => ∃ (j : Nat) (e : Ent), i = .int .i64 j ∧ j ≤ k ∧ New zs k R j e ∧ Mine dev 10 w gd (one e) [] wr) (fun i _ _ _ _ _ _ => k - (intOf i).toNat)
      case atStart => exact ⟨0, off, rfl, by omega, .inl ⟨rfl, rfl⟩, H.out⟩
      case round =>
        obtain ⟨j, e, rfl, hj, hnew, h⟩ := hrel
        replace H := Lib.hid h
        have HNW := Lib.hid hnew
        clear h hnew
        by_cases hlt2 : j < k
        · obtain ⟨M, hM⟩ : ∃ M, M = at_ k R j := ⟨_, rfl⟩
          have hMk : M < k := by rw [hM]; exact Nat.mod_lt _ (by omega)
          have hmod : ((j : Int) + R) % (k : Int) = M := by rw [hM, show at_ k R j = (j + R) % k from rfl]; simp
          have hmod1 : turn % (k : Int) = R := HR.out
          obtain ⟨ad, off', z, rfl, hbl, hzk, hcw, hz0, hz1⟩ := HZ.out.at_ hMk
          have hc := (H.out.below.cell (p := ⟨ad, off' + M, none⟩) hbl).trans hcw
          have HZK := Lib.hid hzk
          have HM := Lib.hid hM
          have hzz := HBS.out.1 M z hMk hzk
          clear hzk hM
          by_cases hnz : e.s < z
          · have HC := Lib.hid (Set_yes dev_ok H.out 7 (by omega) ⟨M, z, 1⟩ ⟨by show (0 : Int) ≤ M; omega, by show (M : Int) < 512; omega, hzz.1, hzz.2.1, Int.le_refl _, by show (1 : Int) ≤ 2; omega⟩ (who_one e 10 (by show (0 : Int) ≤ M; omega)) hnz)
            rw [put_one] at HC
            have HNX := Lib.hid (by have := HNW.out.newer (z := z) (by rw [← HM.out]; exact HZK.out) hnz; rw [← HM.out] at this; exact this)
            clear hnz
            go_wp2_with fail
            refine HC.out.mono ?_
            rintro e3 w3 ⟨rfl, h⟩
            replace H := Lib.hid h
            clear h HC hc
            have HG := Lib.hid (show Calls Try.prog 11 #[ptr gd 0, .int .i64 7] _ fun x w' => x = .returned (.tuple #[.agg #[.int .i64 (M : Int), .int .i64 z, .int .i64 1], .int .i64 0]) ∧ Below _ _ w' from Get_m H.out 7)
            unfold setV
            go_wp2_with fail
            refine HG.out.mono ?_
            rintro e4 w4 ⟨rfl, hb⟩
            have hq := (H.out.on hb).new #[.int .i64 (M : Int), .int .i64 z, .int .i64 1] 30
            obtain ⟨f0, f1, _⟩ := cells3 (hq.at (.head _))
            have hc := (hq.below.cell (p := ⟨ad, off' + M, none⟩) hbl).trans hcw
            replace H := Lib.hid (((H.out.on hb).on ((Below.refl _ _).alloc (Nat.le_refl _) (.cells #[.int .i64 (M : Int), .int .i64 z, .int .i64 1] 30))))
            clear hb hq HG
            go_wp2_with fail
            go_quiet (fail)
            go_wp2
            go_roundw
            case rel => exact ⟨j + 1, ⟨M, z, 1⟩, by go_num, by omega, HNX.out, H.out.on (below_drewN (Below.refl _ _) _)⟩
            case measure => simp [intOf]; omega
          · have HC := Lib.hid (Set_older dev_ok H.out 7 (by omega) ⟨M, z, 1⟩ ⟨by show (0 : Int) ≤ M; omega, by show (M : Int) < 512; omega, hzz.1, hzz.2.1, Int.le_refl _, by show (1 : Int) ≤ 2; omega⟩ (who_one e 10 (by show (0 : Int) ≤ M; omega)) (by show z ≤ e.s; omega))
            have HNX := Lib.hid (by have := HNW.out.older (z := z) (by rw [← HM.out]; exact HZK.out) (by omega) hzz.1 hlt2; rw [← HM.out] at this; exact this)
            have ba : (e.a == (M : Int)) = false := by simpa using HNX.out.2
            have bs : decide (e.s < z) = false := decide_eq_false (by omega)
            clear hnz
            go_wp2_with fail
            refine HC.out.mono ?_
            rintro e3 w3 ⟨rfl, h⟩
            replace H := Lib.hid h
            clear h HC hc
            have HG := Lib.hid (show Calls Try.prog 11 #[ptr gd 0, .int .i64 7] _ fun x w' => x = .returned (.tuple #[.agg #[.int .i64 e.a, .int .i64 e.s, .int .i64 e.k], .int .i64 0]) ∧ Below _ _ w' from Get_m H.out 7)
            unfold setV
            go_wp2_with fail
            refine HG.out.mono ?_
            rintro e4 w4 ⟨rfl, hb⟩
            have hq := (H.out.on hb).new #[.int .i64 e.a, .int .i64 e.s, .int .i64 e.k] 30
            obtain ⟨f0, f1, _⟩ := cells3 (hq.at (.head _))
            have hc := (hq.below.cell (p := ⟨ad, off' + M, none⟩) hbl).trans hcw
            replace H := Lib.hid (((H.out.on hb).on ((Below.refl _ _).alloc (Nat.le_refl _) (.cells #[.int .i64 e.a, .int .i64 e.s, .int .i64 e.k] 30))))
            clear hb hq HG
            go_wp2_with fail
            go_quiet (fail)
            go_wp2
            go_roundw
            case rel => exact ⟨j + 1, e, by go_num, by omega, HNX.out.1, H.out.on (below_drewN (Below.refl _ _) _)⟩
            case measure => simp [intOf]; omega
        · obtain rfl : j = k := by omega
          obtain ⟨t, z, htk, hzt, he, hle⟩ : ∃ t z, t < j ∧ zs[at_ j R t]? = some z ∧ e = ⟨at_ j R t, z, 1⟩ ∧ ∀ t y, t < j → zs[at_ j R t]? = some y → y ≤ z := HNW.out.resolve_left (fun h => hn0 h.1)
          have hbz : z = b := by
            have h1 := (HBS.out.1 (at_ j R t) z (Nat.mod_lt _ (by omega)) hzt).2.2
            rcases HBS.out.2 with ⟨h0, _⟩ | ⟨t2, ht2, h3⟩
            · exact absurd h0 hn0
            · obtain ⟨i2, hi2, h4⟩ := at_onto (r := R) hRn ht2
              have := hle i2 b hi2 (by rw [h4]; exact h3)
              omega
          obtain ⟨M, hM⟩ : ∃ M, M = at_ j R t := ⟨_, rfl⟩
          have hMk : M < j := by rw [hM]; exact Nat.mod_lt _ (by omega)
          rw [← hM] at he hzt
          subst hbz
          clear hle hM htk
          subst he
          obtain ⟨ad, off', z', rfl, hbl, hzk, hcw, hz0, hz1⟩ := HZ.out.at_ hMk
          obtain rfl : z' = z := by rw [hzt] at hzk; injection hzk with hzk; exact hzk.symm
          clear hzt hzk
          have HG := Lib.hid (show Calls Try.prog 11 #[ptr gd 0, .int .i64 7] _ fun x w' => x = .returned (.tuple #[.agg #[.int .i64 (M : Int), .int .i64 z', .int .i64 1], .int .i64 0]) ∧ Below _ _ w' from Get_m H.out 7)
          go_wp2_with fail
          refine HG.out.mono ?_
          rintro e4 w4 ⟨rfl, hb⟩
          have hq := (H.out.on hb).new #[.int .i64 (M : Int), .int .i64 z', .int .i64 1] 30
          obtain ⟨f0, f1, _⟩ := cells3 (hq.at (.head _))
          have hc := (hq.below.cell (p := ⟨ad, off' + M, none⟩) hbl).trans hcw
          replace H := Lib.hid (((H.out.on hb).on ((Below.refl _ _).alloc (Nat.le_refl _) (.cells #[.int .i64 (M : Int), .int .i64 z', .int .i64 1] 30))))
          clear hb hq HG
          have HMY := Lib.hid (Many_m H.out)
          rw [many_one (show ((M : Int)) ≠ -1 by omega)] at HMY
          go_wp2_with fail
          refine HMY.out.mono ?_
          rintro e5 w5 ⟨rfl, hb⟩
          go_wp2
          go_ret
          exact ⟨rfl, below_then H.out.below hb⟩

theorem own : ownKnob Try.prog.godebug = none := by kernel_rfl
theorem laid : laidOutB Try.prog = true := by kernel_rfl
theorem one64 : Try.prog.cellsOf 3 = 1 := by kernel_rfl

set_option maxRecDepth 100000 in
theorem lifted (os : Os) (started : os.Started) (H : Type) (enc : TypeId × Value → H) :
    ReturnsInHanded {} Try.checked os 6 .any (Rows.l2pNewestSpec.pre6 enc Try.prog Try.f6 Rows.l2pNewestRow.domain false) (Rows.l2pNewestSpec.post enc Try.prog Try.f6 false true false false) := by
  refine returnsInHanded_of_change (C := Try.checked) own started (by kernel_rfl) Try.func6
    (ChangeSpec.witness6 (enc := enc) (C := Try.checked) false ⟨#[], #[.slice none 0 0, .int .i64 0], []⟩ 8 (by kernel_rfl) (by kernel_rfl) (by kernel_rfl) (by kernel_rfl)) ?_
  intro W base args ds gs before hval0 hW _ _
  have hval : ∀ (j : Nat) t v, Try.f6.params[j]? = some t → args[j]? = some v → Value.okWide Try.prog W .any base t v := hval0
  have hW' := hW
  obtain ⟨p, q, hA0, hV, rfl, hfz, hnd⟩ := hW
  have hA : DataW.TrodAll enc Try.prog W 0 (fun _ => true) true Try.f6.params.toList args.toList ds p := hA0
  rw [Try.params6] at hA hval
  obtain ⟨v0, v1, d0, d1, p0, p1, rfl, rfl, rfl, h0, h1⟩ := trodAll_two hA
  obtain ⟨A0, n0, c0, zs0, rfl, hnc0, hcm0, hr0⟩ := open_nums Try.underlying54 Try.underlying3 one64 (hval 0 54 v0 rfl rfl) h0
  obtain ⟨a1, rfl, rfl, rfl, wf1⟩ := open_int Try.underlying3 (hval 1 3 v1 rfl rfl) h1
  have hb1 : -9223372036854775808 ≤ a1 ∧ a1 ≤ 9223372036854775807 := by simpa [Lit.wf, IntKind.min, IntKind.max, IntKind.signed, IntKind.bits] using wf1
  refine (walk A0 n0 c0 zs0 a1 W hnc0 hcm0 hr0 hb1.1 hb1.2).mono fun e W' ⟨he, hb⟩ => ?_
  subst he
  exact ⟨_, rfl, Law.post laid (by kernel_rfl) (by kernel_rfl) Try.underlying4 rfl hW' rfl hb⟩

theorem proved : Rows.L2pNewestSaid :=
  OpenClaim.holds_of_wide 6 Try.f6 rfl rfl rfl rfl rfl rfl rfl ⟨rfl, rfl, rfl, rfl, rfl⟩ rfl rfl rfl rfl rfl (by kernel_rfl) Try.func6 (by kernel_rfl)
    (of_decide_eq_true (by kernel_rfl)) (by unfold Func.isWrapper; first | (rw [if_pos (by decide +kernel)]; kernel_rfl) | (rw [if_neg (by decide +kernel)]; exact ⟨rfl, rfl⟩))
    (fun os started H enc _ => lifted os started H enc)

end Go.Proofs.Ytpheblblkkclbaa.l2pNewest
