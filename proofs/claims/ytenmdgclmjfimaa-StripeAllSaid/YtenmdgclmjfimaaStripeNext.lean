/-
  What Next and Left of package stripe do: for every input.
-/
import Derived.Test.YtenmdgclmjfimaaStripeWalks
namespace Go.Proofs.Ytenmdgclmjfimaa.StripePkg
open Go.RowKit Stripe
set_option maxRecDepth 4000

section
variable {c l k p s U R L N : Int}

theorem spot_is (h : Geom.Sizes c l k p s U R L N) (V : Int) (h0 : 0 ≤ V) (h1 : V < U * p) : ∃ u g : Int, 0 ≤ u ∧ u < U ∧ 0 ≤ g ∧ g < p ∧ V = g * U + u ∧ ∀ w, Calls Try.prog 12 #[.agg #[.int .i64 c, .int .i64 l, .int .i64 k, .int .i64 p, .int .i64 s], .int .i64 V] w fun e w' => e = .returned (.tuple #[.int .i64 u, .int .i64 g, .int .i64 0]) ∧ Below w.heap.size w w' := by
  have hsp := Stripe.split U V h.u0 h0
  exact ⟨V % U, V / U, hsp.2.1, hsp.2.2.1, hsp.2.2.2, Stripe.row_bd h.u0 h0 h1, hsp.1, fun w => Spot_in h V h0 h1 w⟩

theorem eight_made (w : World) (t : TypeId) (zs : List Int) : Eight (w.alloc (.cells #[.bool (dd zs 0), .bool (dd zs 1), .bool (dd zs 2), .bool (dd zs 3), .bool (dd zs 4), .bool (dd zs 5), .bool (dd zs 6), .bool (dd zs 7)] t)) w.heap.size zs := by
  intro j hj
  refine ⟨?_, World.frozen?_alloc_at _ _ _ _ rfl⟩
  match j, hj with
  | 0, _ | 1, _ | 2, _ | 3, _ | 4, _ | 5, _ | 6, _ | 7, _ => simp

theorem start_is {V u g q : Int} {w w3 : World} {bg : Nat} {zs : List Int} (hV : V = g * U + u) (hu0 : 0 ≤ u) (hu1 : u < U) (hq : q = g) (hbg : bg = w3.heap.size) (hG : Geo w3 w.heap.size c l k p s) (hB : Below w.heap.size w w3) :
    ∃ (kk uu : Int), Value.int .i64 V = .int .i64 kk ∧ Value.int .i64 u = .int .i64 uu ∧ kk = q * U + uu ∧ 0 ≤ uu ∧ uu ≤ U ∧ V ≤ kk ∧ (∀ i, V ≤ i → i < kk → live zs U i = false) ∧ Eight (w3.alloc (.cells #[.bool (dd zs 0), .bool (dd zs 1), .bool (dd zs 2), .bool (dd zs 3), .bool (dd zs 4), .bool (dd zs 5), .bool (dd zs 6), .bool (dd zs 7)] 45)) bg zs ∧ Geo (w3.alloc (.cells #[.bool (dd zs 0), .bool (dd zs 1), .bool (dd zs 2), .bool (dd zs 3), .bool (dd zs 4), .bool (dd zs 5), .bool (dd zs 6), .bool (dd zs 7)] 45)) w.heap.size c l k p s ∧ Below w.heap.size w (w3.alloc (.cells #[.bool (dd zs 0), .bool (dd zs 1), .bool (dd zs 2), .bool (dd zs 3), .bool (dd zs 4), .bool (dd zs 5), .bool (dd zs 6), .bool (dd zs 7)] 45)) := by
  subst hq hbg
  exact ⟨V, u, rfl, rfl, hV, hu0, by omega, by omega, fun i h1 h2 => by omega, eight_made _ _ _, geo_keep hG ((Below.refl _ _).alloc (Nat.le_refl _) _), hB.alloc hB.size _⟩

theorem kk_bd {kk q uu : Int} {M : Int} (h : kk = q * U + uu) (q0 : 0 ≤ q) (q1 : q < p) (u0 : 0 ≤ uu) (u1 : uu ≤ U) (hM : M = U * p) (hup : 1 ≤ M ∧ M ≤ 8 * 32) : -1000 ≤ kk ∧ kk ≤ 1000 := by
  have h1 : 0 ≤ q * U := Int.mul_nonneg q0 (by omega)
  have h2 : (q + 1) * U ≤ p * U := Int.mul_le_mul_of_nonneg_right (by omega) (by omega)
  rw [Int.add_mul, Int.one_mul, Int.mul_comm p U] at h2
  omega

theorem qq_lt {kk q : Int} {M : Int} (h : kk = q * U + U) (h1 : kk < M) (hM : M = U * p) (hU : 1 ≤ U) : q + 1 < p := by
  by_cases hc : q + 1 < p
  · exact hc
  · have h2 : p * U ≤ (q + 1) * U := Int.mul_le_mul_of_nonneg_right (by omega) (by omega)
    rw [Int.add_mul, Int.one_mul, Int.mul_comm p U] at h2
    omega

theorem kk_lt {kk q uu : Int} {M : Int} (h : kk = q * U + uu) (q1 : q < p) (u0 : 0 ≤ uu) (u1 : uu < U) (hM : M = U * p) : kk < M := by
  have h2 : (q + 1) * U ≤ p * U := Int.mul_le_mul_of_nonneg_right (by omega) (by omega)
  rw [Int.add_mul, Int.one_mul, Int.mul_comm p U] at h2
  omega

theorem next_pos (h : Geom.Sizes c l k p s U R L N) (A : Option Addr) (n cp B : Nat) (zs : List Int) (x : Int) (w : World) (hn : n ≤ maxLen) (hz : Nums w B A n zs) (hB : B ≤ w.heap.size) (hx : 0 ≤ x) (hx1 : x < U * p) :
    Calls Try.prog 10 #[.agg #[.int .i64 c, .int .i64 l, .int .i64 k, .int .i64 p, .int .i64 s], .slice A n cp, .int .i64 x] w fun e w' => ∃ r, e = .returned (.int .i64 r) ∧ Nxt (live zs U) x (U * p) r ∧ Below w.heap.size w w' := by
  have HB := Lib.hid ((Below.refl w.heap.size w).alloc (Nat.le_refl _) (.cells #[.int .i64 c, .int .i64 l, .int .i64 k, .int .i64 p, .int .i64 s] 23))
  have HG := Lib.hid (geo_new w 23 c l k p s)
  have hup := Geom.mul_bd h.u0 h.u1 h.may.2.2.2.2.2.2.1 h.may.2.2.2.2.2.2.2.1
  obtain ⟨u, g, hu0, hu1, hg0, hg1, hV, hS⟩ := spot_is h x (by omega) (by omega)
  have HS := Lib.hid hS
  have HV := Lib.hid hV
  have HDO := Lib.hid (fun wr (hb : Below w.heap.size w wr) => deadOnes_any A n cp B zs wr hn (nums_keep hz (hb.mono hB)) (Nat.le_trans hB hb.size))
  have HU := Lib.hid (fun w => Units_ok h w)
  have HP := Lib.hid (fun w => pages_ok h w)
  have dx : decide (x < 0) = false := by simp; omega
  obtain ⟨M, hM⟩ : ∃ M, M = U * p := ⟨_, rfl⟩
  rw [← hM] at HP hup ⊢
  have HM := Lib.hid hM
  have hU1 := h.u1
  have hU0 := h.u0
  clear h hz hn hV hS hM hx1
  go_enter Try.func10, Try.ntmps10
  go_wp2
  refine wp_scope_jumps 0 (fun a' w' => ∃ (kk q : Int) (bg : Nat) (v6 v8 v9 v11 v12 v13 v14 v15 v16 v17 v18 v19 v20 v21 v22 v23 v24 v25 v26 v27 v28 v29 v30 v31 v32 v33 v34 v35 v36 v37 v38 v39 v40 : Value), a' = { tmps := #[.agg #[.int .i64 c, .int .i64 l, .int .i64 k, .int .i64 p, .int .i64 s], .slice A n cp, .int .i64 kk, .pointer (some ⟨w.heap.size, 0, none⟩), undef, undef, v6, .int .i64 0, v8, v9, .pointer (some ⟨bg, 0, none⟩), v11, v12, v13, v14, v15, v16, v17, v18, v19, v20, v21, v22, v23, v24, v25, v26, v27, v28, v29, v30, v31, v32, v33, v34, v35, v36, v37, v38, v39, v40], defers := [] } ∧ kk = q * U ∧ 0 ≤ q ∧ q < p ∧ x ≤ kk ∧ (∀ i, x ≤ i → i < kk → live zs U i = false) ∧ Eight w' bg zs ∧ Geo w' w.heap.size c l k p s ∧ Below w.heap.size w w') (fun a' _ => (M - intOf (a'.tmps.getD 2 undef)).toNat) rfl ?_ ?_
  · go_wp2_with fail
    refine (HS.out _).mono ?_
    rintro e w2 ⟨rfl, hb⟩
    replace HB := Lib.hid (below_then HB.out hb)
    replace HG := Lib.hid (geo_keep HG.out hb)
    clear hb
    go_wp2_with fail
    refine (HDO.out _ HB.out).mono ?_
    rintro e w3 ⟨rfl, hb⟩
    replace HB := Lib.hid (below_then HB.out hb)
    replace HG := Lib.hid (geo_keep HG.out hb)
    clear hb
    obtain ⟨bg, hbg⟩ : ∃ bg, bg = w3.heap.size := ⟨_, rfl⟩
    obtain ⟨q, hq⟩ : ∃ q, q = g := ⟨_, rfl⟩
    have hq0 : 0 ≤ q := by omega
    have hq1 : q < p := by omega
    go_wp2
    go_step3
    go_wp2
    rw [← hbg]
    have HSTART := Lib.hid (start_is (V := x) (w := w) HV.out hu0 hu1 hq hbg HG.out HB.out (zs := zs))
    clear hq hbg HG HB HV
    go_loopw [2, 7] (fun kv uv wr => ∃ (kk uu : Int), kv = .int .i64 kk ∧ uv = .int .i64 uu ∧ kk = q * U + uu ∧ 0 ≤ uu ∧ uu ≤ U ∧ x ≤ kk ∧ (∀ i, x ≤ i → i < kk → live zs U i = false) ∧ Eight wr bg zs ∧ Geo wr w.heap.size c l k p s ∧ Below w.heap.size w wr) (fun _ uv _ => (U - intOf uv).toNat)
    case atStart => exact HSTART.out
    case round =>
      clear HSTART
      obtain ⟨kk, uu, rfl, rfl, hkk, hu0, hu1, hVk, hdead, h8, hgeo, hbw⟩ := hrel
      have HKK := Lib.hid hkk
      have HDEAD := Lib.hid hdead
      have H8 := Lib.hid h8
      have HGE := Lib.hid hgeo
      have HBW := Lib.hid hbw
      have hkb : -1000 ≤ kk ∧ kk ≤ 1000 := kk_bd hkk hq0 hq1 hu0 hu1 HM.out hup
      clear hkk hdead h8 hgeo hbw
      obtain ⟨k0, k1, k2, k3, k4⟩ := HGE.out
      by_cases hlt : uu < U
      · obtain ⟨y, rfl⟩ : ∃ y : Nat, uu = (y : Int) := ⟨uu.toNat, by omega⟩
        have hy8 : y < 8 := by omega
        have dl : decide ((y : Int) < U) = true := by simp; omega
        go_wp2_with fail
        refine (HU.out _).mono ?_
        rintro e w5 ⟨rfl, hb⟩
        have hc := (eight_keep H8.out hb y hy8).1
        have H85 := Lib.hid (eight_keep H8.out hb)
        have HG5 := Lib.hid (geo_keep HGE.out hb)
        have HB5 := Lib.hid (below_then HBW.out hb)
        have hyl : (y : Int) < 8 := by omega
        clear hb k0 k1 k2 k3 k4
        have HL := Lib.hid (live_at (zs := zs) (U := U) (q := q) (u := (y : Int)) (by omega) hlt)
        cases hdd : dd zs (y : Int) with
        | false =>
          rw [hdd] at hc HL
          clear hdd
          go_wp2
          try simp only [Exit.jump]
          go_ret
          exact ⟨kk, rfl, Or.inr ⟨hVk, kk_lt HKK.out hq1 hu0 hlt HM.out, by rw [HKK.out]; exact HL.out, HDEAD.out⟩, HB5.out⟩
        | true =>
          rw [hdd] at hc HL
          clear hdd
          go_wp2
          go_roundw
          case measure => simp [intOf]; omega
          case rel =>
            refine ⟨kk + 1, (y : Int) + 1, by go_num, by go_num, by have := HKK.out; omega, by omega, by omega, by omega, fun i h1 h2 => ?_, H85.out, HG5.out, HB5.out⟩
            by_cases e : i = kk
            · rw [e, HKK.out]
              exact HL.out
            · exact HDEAD.out i h1 (by omega)
      · obtain rfl : uu = U := by omega
        have dl : decide (uu < uu) = false := by simp
        go_wp2_with fail
        refine (HU.out _).mono ?_
        rintro e w5 ⟨rfl, hb⟩
        have H85 := Lib.hid (eight_keep H8.out hb)
        have HG5 := Lib.hid (geo_keep HGE.out hb)
        have HB5 := Lib.hid (below_then HBW.out hb)
        clear hb k0 k1 k2 k3 k4
        obtain ⟨k0, k1, k2, k3, k4⟩ := HG5.out
        go_wp2_with fail
        refine (HP.out _).mono ?_
        rintro e w6 ⟨rfl, hb⟩
        replace H85 := Lib.hid (eight_keep H85.out hb)
        replace HG5 := Lib.hid (geo_keep HG5.out hb)
        replace HB5 := Lib.hid (below_then HB5.out hb)
        clear hb k0 k1 k2 k3 k4
        by_cases hend : kk < M
        · have de : decide (kk < M) = true := by simp; omega
          go_wp2
          go_step3
          refine ⟨rfl, kk, q + 1, bg, _, _, _, _, _, _, _, _, _, _, _, _, _, _, _, _, _, _, _, _, _, _, _, _, _, _, _, _, _, _, _, _, _, rfl, by have := HKK.out; rw [Int.add_mul, Int.one_mul]; exact this, by omega, ?_, hVk, HDEAD.out, H85.out, HG5.out, HB5.out⟩
          exact qq_lt HKK.out hend HM.out hU0
        · have de : decide (kk < M) = false := by simp; omega
          go_wp2
          try simp only [Exit.jump]
          go_ret
          exact ⟨-1, rfl, Or.inl ⟨rfl, fun i h1 h2 => HDEAD.out i h1 (by omega)⟩, HB5.out⟩
  · rintro a' w4 ⟨kk0, q, bg, v6, v8, v9, v11, v12, v13, v14, v15, v16, v17, v18, v19, v20, v21, v22, v23, v24, v25, v26, v27, v28, v29, v30, v31, v32, v33, v34, v35, v36, v37, v38, v39, v40, rfl, hk0, hq0, hq1, hVk0, hdead0, h80, hgeo0, hbw0⟩
    have HK0 := Lib.hid hk0
    have HSTART : Hid (∃ (kk uu : Int), Value.int .i64 kk0 = .int .i64 kk ∧ Value.int .i64 0 = .int .i64 uu ∧ kk = q * U + uu ∧ 0 ≤ uu ∧ uu ≤ U ∧ x ≤ kk ∧ (∀ i, x ≤ i → i < kk → live zs U i = false) ∧ Eight w4 bg zs ∧ Geo w4 w.heap.size c l k p s ∧ Below w.heap.size w w4) := Lib.hid ⟨kk0, 0, rfl, rfl, by omega, by omega, by omega, hVk0, hdead0, h80, hgeo0, hbw0⟩
    have hkM : kk0 < M := kk_lt (q := q) (uu := 0) (by omega) hq1 (by omega) (by omega) HM.out
    clear hk0 hVk0 hdead0 h80 hgeo0 hbw0 HG HB HV HS HDO
    go_wp2
    go_loopw [2, 7] (fun kv uv wr => ∃ (kk uu : Int), kv = .int .i64 kk ∧ uv = .int .i64 uu ∧ kk = q * U + uu ∧ 0 ≤ uu ∧ uu ≤ U ∧ x ≤ kk ∧ (∀ i, x ≤ i → i < kk → live zs U i = false) ∧ Eight wr bg zs ∧ Geo wr w.heap.size c l k p s ∧ Below w.heap.size w wr) (fun _ uv _ => (U - intOf uv).toNat)
    case atStart => exact HSTART.out
    case round =>
      clear HSTART
      obtain ⟨kk, uu, rfl, rfl, hkk, hu0, hu1, hVk, hdead, h8, hgeo, hbw⟩ := hrel
      have HKK := Lib.hid hkk
      have HDEAD := Lib.hid hdead
      have H8 := Lib.hid h8
      have HGE := Lib.hid hgeo
      have HBW := Lib.hid hbw
      have hkb : -1000 ≤ kk ∧ kk ≤ 1000 := kk_bd hkk hq0 hq1 hu0 hu1 HM.out hup
      clear hkk hdead h8 hgeo hbw
      obtain ⟨k0, k1, k2, k3, k4⟩ := HGE.out
      by_cases hlt : uu < U
      · obtain ⟨y, rfl⟩ : ∃ y : Nat, uu = (y : Int) := ⟨uu.toNat, by omega⟩
        have hy8 : y < 8 := by omega
        have dl : decide ((y : Int) < U) = true := by simp; omega
        go_wp2_with fail
        refine (HU.out _).mono ?_
        rintro e w5 ⟨rfl, hb⟩
        have hc := (eight_keep H8.out hb y hy8).1
        have H85 := Lib.hid (eight_keep H8.out hb)
        have HG5 := Lib.hid (geo_keep HGE.out hb)
        have HB5 := Lib.hid (below_then HBW.out hb)
        have hyl : (y : Int) < 8 := by omega
        clear hb k0 k1 k2 k3 k4
        have HL := Lib.hid (live_at (zs := zs) (U := U) (q := q) (u := (y : Int)) (by omega) hlt)
        cases hdd : dd zs (y : Int) with
        | false =>
          rw [hdd] at hc HL
          clear hdd
          go_wp2
          try simp only [Exit.jump]
          go_ret
          exact ⟨kk, rfl, Or.inr ⟨hVk, kk_lt HKK.out hq1 hu0 hlt HM.out, by rw [HKK.out]; exact HL.out, HDEAD.out⟩, HB5.out⟩
        | true =>
          rw [hdd] at hc HL
          clear hdd
          go_wp2
          go_roundw
          case measure => simp [intOf]; omega
          case rel =>
            refine ⟨kk + 1, (y : Int) + 1, by go_num, by go_num, by have := HKK.out; omega, by omega, by omega, by omega, fun i h1 h2 => ?_, H85.out, HG5.out, HB5.out⟩
            by_cases e : i = kk
            · rw [e, HKK.out]
              exact HL.out
            · exact HDEAD.out i h1 (by omega)
      · obtain rfl : uu = U := by omega
        have dl : decide (uu < uu) = false := by simp
        go_wp2_with fail
        refine (HU.out _).mono ?_
        rintro e w5 ⟨rfl, hb⟩
        have H85 := Lib.hid (eight_keep H8.out hb)
        have HG5 := Lib.hid (geo_keep HGE.out hb)
        have HB5 := Lib.hid (below_then HBW.out hb)
        clear hb k0 k1 k2 k3 k4
        obtain ⟨k0, k1, k2, k3, k4⟩ := HG5.out
        go_wp2_with fail
        refine (HP.out _).mono ?_
        rintro e w6 ⟨rfl, hb⟩
        replace H85 := Lib.hid (eight_keep H85.out hb)
        replace HG5 := Lib.hid (geo_keep HG5.out hb)
        replace HB5 := Lib.hid (below_then HB5.out hb)
        clear hb k0 k1 k2 k3 k4
        by_cases hend : kk < M
        · have de : decide (kk < M) = true := by simp; omega
          go_wp2
          go_step3
          refine ⟨rfl, ⟨kk, q + 1, bg, _, _, _, _, _, _, _, _, _, _, _, _, _, _, _, _, _, _, _, _, _, _, _, _, _, _, _, _, _, _, _, _, _, rfl, by have := HKK.out; rw [Int.add_mul, Int.one_mul]; exact this, by omega, ?_, hVk, HDEAD.out, H85.out, HG5.out, HB5.out⟩, ?_⟩
          rotate_left
          · show (M - intOf (Value.int .i64 kk)).toNat < (M - intOf (Value.int .i64 kk0)).toNat
            have h1 := HKK.out
            have h2 := HK0.out
            simp only [intOf]
            omega
          exact qq_lt HKK.out hend HM.out hU0
        · have de : decide (kk < M) = false := by simp; omega
          go_wp2
          try simp only [Exit.jump]
          go_ret
          exact ⟨-1, rfl, Or.inl ⟨rfl, fun i h1 h2 => HDEAD.out i h1 (by omega)⟩, HB5.out⟩


theorem next_neg (h : Geom.Sizes c l k p s U R L N) (A : Option Addr) (n cp B : Nat) (zs : List Int) (x : Int) (w : World) (hn : n ≤ maxLen) (hz : Nums w B A n zs) (hB : B ≤ w.heap.size) (hx : x < 0) :
    Calls Try.prog 10 #[.agg #[.int .i64 c, .int .i64 l, .int .i64 k, .int .i64 p, .int .i64 s], .slice A n cp, .int .i64 x] w fun e w' => ∃ r, e = .returned (.int .i64 r) ∧ Nxt (live zs U) 0 (U * p) r ∧ Below w.heap.size w w' := by
  have HB := Lib.hid ((Below.refl w.heap.size w).alloc (Nat.le_refl _) (.cells #[.int .i64 c, .int .i64 l, .int .i64 k, .int .i64 p, .int .i64 s] 23))
  have HG := Lib.hid (geo_new w 23 c l k p s)
  have hup := Geom.mul_bd h.u0 h.u1 h.may.2.2.2.2.2.2.1 h.may.2.2.2.2.2.2.2.1
  obtain ⟨u, g, hu0, hu1, hg0, hg1, hV, hS⟩ := spot_is h 0 (by omega) (by omega)
  have HS := Lib.hid hS
  have HV := Lib.hid hV
  have HDO := Lib.hid (fun wr (hb : Below w.heap.size w wr) => deadOnes_any A n cp B zs wr hn (nums_keep hz (hb.mono hB)) (Nat.le_trans hB hb.size))
  have HU := Lib.hid (fun w => Units_ok h w)
  have HP := Lib.hid (fun w => pages_ok h w)
  have dx : decide (x < 0) = true := by simp; omega
  obtain ⟨M, hM⟩ : ∃ M, M = U * p := ⟨_, rfl⟩
  rw [← hM] at HP hup ⊢
  have HM := Lib.hid hM
  have hU1 := h.u1
  have hU0 := h.u0
  clear h hz hn hV hS hM
  go_enter Try.func10, Try.ntmps10
  go_wp2
  refine wp_scope_jumps 0 (fun a' w' => ∃ (kk q : Int) (bg : Nat) (v6 v8 v9 v11 v12 v13 v14 v15 v16 v17 v18 v19 v20 v21 v22 v23 v24 v25 v26 v27 v28 v29 v30 v31 v32 v33 v34 v35 v36 v37 v38 v39 v40 : Value), a' = { tmps := #[.agg #[.int .i64 c, .int .i64 l, .int .i64 k, .int .i64 p, .int .i64 s], .slice A n cp, .int .i64 kk, .pointer (some ⟨w.heap.size, 0, none⟩), undef, undef, v6, .int .i64 0, v8, v9, .pointer (some ⟨bg, 0, none⟩), v11, v12, v13, v14, v15, v16, v17, v18, v19, v20, v21, v22, v23, v24, v25, v26, v27, v28, v29, v30, v31, v32, v33, v34, v35, v36, v37, v38, v39, v40], defers := [] } ∧ kk = q * U ∧ 0 ≤ q ∧ q < p ∧ 0 ≤ kk ∧ (∀ i, 0 ≤ i → i < kk → live zs U i = false) ∧ Eight w' bg zs ∧ Geo w' w.heap.size c l k p s ∧ Below w.heap.size w w') (fun a' _ => (M - intOf (a'.tmps.getD 2 undef)).toNat) rfl ?_ ?_
  · go_wp2_with fail
    refine (HS.out _).mono ?_
    rintro e w2 ⟨rfl, hb⟩
    replace HB := Lib.hid (below_then HB.out hb)
    replace HG := Lib.hid (geo_keep HG.out hb)
    clear hb
    go_wp2_with fail
    refine (HDO.out _ HB.out).mono ?_
    rintro e w3 ⟨rfl, hb⟩
    replace HB := Lib.hid (below_then HB.out hb)
    replace HG := Lib.hid (geo_keep HG.out hb)
    clear hb
    obtain ⟨bg, hbg⟩ : ∃ bg, bg = w3.heap.size := ⟨_, rfl⟩
    obtain ⟨q, hq⟩ : ∃ q, q = g := ⟨_, rfl⟩
    have hq0 : 0 ≤ q := by omega
    have hq1 : q < p := by omega
    go_wp2
    go_step3
    go_wp2
    rw [← hbg]
    have HSTART := Lib.hid (start_is (V := 0) (w := w) HV.out hu0 hu1 hq hbg HG.out HB.out (zs := zs))
    clear hq hbg HG HB HV
    go_loopw [2, 7] (fun kv uv wr => ∃ (kk uu : Int), kv = .int .i64 kk ∧ uv = .int .i64 uu ∧ kk = q * U + uu ∧ 0 ≤ uu ∧ uu ≤ U ∧ 0 ≤ kk ∧ (∀ i, 0 ≤ i → i < kk → live zs U i = false) ∧ Eight wr bg zs ∧ Geo wr w.heap.size c l k p s ∧ Below w.heap.size w wr) (fun _ uv _ => (U - intOf uv).toNat)
    case atStart => exact HSTART.out
    case round =>
      clear HSTART
      obtain ⟨kk, uu, rfl, rfl, hkk, hu0, hu1, hVk, hdead, h8, hgeo, hbw⟩ := hrel
      have HKK := Lib.hid hkk
      have HDEAD := Lib.hid hdead
      have H8 := Lib.hid h8
      have HGE := Lib.hid hgeo
      have HBW := Lib.hid hbw
      have hkb : -1000 ≤ kk ∧ kk ≤ 1000 := kk_bd hkk hq0 hq1 hu0 hu1 HM.out hup
      clear hkk hdead h8 hgeo hbw
      obtain ⟨k0, k1, k2, k3, k4⟩ := HGE.out
      by_cases hlt : uu < U
      · obtain ⟨y, rfl⟩ : ∃ y : Nat, uu = (y : Int) := ⟨uu.toNat, by omega⟩
        have hy8 : y < 8 := by omega
        have dl : decide ((y : Int) < U) = true := by simp; omega
        go_wp2_with fail
        refine (HU.out _).mono ?_
        rintro e w5 ⟨rfl, hb⟩
        have hc := (eight_keep H8.out hb y hy8).1
        have H85 := Lib.hid (eight_keep H8.out hb)
        have HG5 := Lib.hid (geo_keep HGE.out hb)
        have HB5 := Lib.hid (below_then HBW.out hb)
        have hyl : (y : Int) < 8 := by omega
        clear hb k0 k1 k2 k3 k4
        have HL := Lib.hid (live_at (zs := zs) (U := U) (q := q) (u := (y : Int)) (by omega) hlt)
        cases hdd : dd zs (y : Int) with
        | false =>
          rw [hdd] at hc HL
          clear hdd
          go_wp2
          try simp only [Exit.jump]
          go_ret
          exact ⟨kk, rfl, Or.inr ⟨hVk, kk_lt HKK.out hq1 hu0 hlt HM.out, by rw [HKK.out]; exact HL.out, HDEAD.out⟩, HB5.out⟩
        | true =>
          rw [hdd] at hc HL
          clear hdd
          go_wp2
          go_roundw
          case measure => simp [intOf]; omega
          case rel =>
            refine ⟨kk + 1, (y : Int) + 1, by go_num, by go_num, by have := HKK.out; omega, by omega, by omega, by omega, fun i h1 h2 => ?_, H85.out, HG5.out, HB5.out⟩
            by_cases e : i = kk
            · rw [e, HKK.out]
              exact HL.out
            · exact HDEAD.out i h1 (by omega)
      · obtain rfl : uu = U := by omega
        have dl : decide (uu < uu) = false := by simp
        go_wp2_with fail
        refine (HU.out _).mono ?_
        rintro e w5 ⟨rfl, hb⟩
        have H85 := Lib.hid (eight_keep H8.out hb)
        have HG5 := Lib.hid (geo_keep HGE.out hb)
        have HB5 := Lib.hid (below_then HBW.out hb)
        clear hb k0 k1 k2 k3 k4
        obtain ⟨k0, k1, k2, k3, k4⟩ := HG5.out
        go_wp2_with fail
        refine (HP.out _).mono ?_
        rintro e w6 ⟨rfl, hb⟩
        replace H85 := Lib.hid (eight_keep H85.out hb)
        replace HG5 := Lib.hid (geo_keep HG5.out hb)
        replace HB5 := Lib.hid (below_then HB5.out hb)
        clear hb k0 k1 k2 k3 k4
        by_cases hend : kk < M
        · have de : decide (kk < M) = true := by simp; omega
          go_wp2
          go_step3
          refine ⟨rfl, kk, q + 1, bg, _, _, _, _, _, _, _, _, _, _, _, _, _, _, _, _, _, _, _, _, _, _, _, _, _, _, _, _, _, _, _, _, _, rfl, by have := HKK.out; rw [Int.add_mul, Int.one_mul]; exact this, by omega, ?_, hVk, HDEAD.out, H85.out, HG5.out, HB5.out⟩
          exact qq_lt HKK.out hend HM.out hU0
        · have de : decide (kk < M) = false := by simp; omega
          go_wp2
          try simp only [Exit.jump]
          go_ret
          exact ⟨-1, rfl, Or.inl ⟨rfl, fun i h1 h2 => HDEAD.out i h1 (by omega)⟩, HB5.out⟩
  · rintro a' w4 ⟨kk0, q, bg, v6, v8, v9, v11, v12, v13, v14, v15, v16, v17, v18, v19, v20, v21, v22, v23, v24, v25, v26, v27, v28, v29, v30, v31, v32, v33, v34, v35, v36, v37, v38, v39, v40, rfl, hk0, hq0, hq1, hVk0, hdead0, h80, hgeo0, hbw0⟩
    have HK0 := Lib.hid hk0
    have HSTART : Hid (∃ (kk uu : Int), Value.int .i64 kk0 = .int .i64 kk ∧ Value.int .i64 0 = .int .i64 uu ∧ kk = q * U + uu ∧ 0 ≤ uu ∧ uu ≤ U ∧ 0 ≤ kk ∧ (∀ i, 0 ≤ i → i < kk → live zs U i = false) ∧ Eight w4 bg zs ∧ Geo w4 w.heap.size c l k p s ∧ Below w.heap.size w w4) := Lib.hid ⟨kk0, 0, rfl, rfl, by omega, by omega, by omega, hVk0, hdead0, h80, hgeo0, hbw0⟩
    have hkM : kk0 < M := kk_lt (q := q) (uu := 0) (by omega) hq1 (by omega) (by omega) HM.out
    clear hk0 hVk0 hdead0 h80 hgeo0 hbw0 HG HB HV HS HDO
    go_wp2
    go_loopw [2, 7] (fun kv uv wr => ∃ (kk uu : Int), kv = .int .i64 kk ∧ uv = .int .i64 uu ∧ kk = q * U + uu ∧ 0 ≤ uu ∧ uu ≤ U ∧ 0 ≤ kk ∧ (∀ i, 0 ≤ i → i < kk → live zs U i = false) ∧ Eight wr bg zs ∧ Geo wr w.heap.size c l k p s ∧ Below w.heap.size w wr) (fun _ uv _ => (U - intOf uv).toNat)
    case atStart => exact HSTART.out
    case round =>
      clear HSTART
      obtain ⟨kk, uu, rfl, rfl, hkk, hu0, hu1, hVk, hdead, h8, hgeo, hbw⟩ := hrel
      have HKK := Lib.hid hkk
      have HDEAD := Lib.hid hdead
      have H8 := Lib.hid h8
      have HGE := Lib.hid hgeo
      have HBW := Lib.hid hbw
      have hkb : -1000 ≤ kk ∧ kk ≤ 1000 := kk_bd hkk hq0 hq1 hu0 hu1 HM.out hup
      clear hkk hdead h8 hgeo hbw
      obtain ⟨k0, k1, k2, k3, k4⟩ := HGE.out
      by_cases hlt : uu < U
      · obtain ⟨y, rfl⟩ : ∃ y : Nat, uu = (y : Int) := ⟨uu.toNat, by omega⟩
        have hy8 : y < 8 := by omega
        have dl : decide ((y : Int) < U) = true := by simp; omega
        go_wp2_with fail
        refine (HU.out _).mono ?_
        rintro e w5 ⟨rfl, hb⟩
        have hc := (eight_keep H8.out hb y hy8).1
        have H85 := Lib.hid (eight_keep H8.out hb)
        have HG5 := Lib.hid (geo_keep HGE.out hb)
        have HB5 := Lib.hid (below_then HBW.out hb)
        have hyl : (y : Int) < 8 := by omega
        clear hb k0 k1 k2 k3 k4
        have HL := Lib.hid (live_at (zs := zs) (U := U) (q := q) (u := (y : Int)) (by omega) hlt)
        cases hdd : dd zs (y : Int) with
        | false =>
          rw [hdd] at hc HL
          clear hdd
          go_wp2
          try simp only [Exit.jump]
          go_ret
          exact ⟨kk, rfl, Or.inr ⟨hVk, kk_lt HKK.out hq1 hu0 hlt HM.out, by rw [HKK.out]; exact HL.out, HDEAD.out⟩, HB5.out⟩
        | true =>
          rw [hdd] at hc HL
          clear hdd
          go_wp2
          go_roundw
          case measure => simp [intOf]; omega
          case rel =>
            refine ⟨kk + 1, (y : Int) + 1, by go_num, by go_num, by have := HKK.out; omega, by omega, by omega, by omega, fun i h1 h2 => ?_, H85.out, HG5.out, HB5.out⟩
            by_cases e : i = kk
            · rw [e, HKK.out]
              exact HL.out
            · exact HDEAD.out i h1 (by omega)
      · obtain rfl : uu = U := by omega
        have dl : decide (uu < uu) = false := by simp
        go_wp2_with fail
        refine (HU.out _).mono ?_
        rintro e w5 ⟨rfl, hb⟩
        have H85 := Lib.hid (eight_keep H8.out hb)
        have HG5 := Lib.hid (geo_keep HGE.out hb)
        have HB5 := Lib.hid (below_then HBW.out hb)
        clear hb k0 k1 k2 k3 k4
        obtain ⟨k0, k1, k2, k3, k4⟩ := HG5.out
        go_wp2_with fail
        refine (HP.out _).mono ?_
        rintro e w6 ⟨rfl, hb⟩
        replace H85 := Lib.hid (eight_keep H85.out hb)
        replace HG5 := Lib.hid (geo_keep HG5.out hb)
        replace HB5 := Lib.hid (below_then HB5.out hb)
        clear hb k0 k1 k2 k3 k4
        by_cases hend : kk < M
        · have de : decide (kk < M) = true := by simp; omega
          go_wp2
          go_step3
          refine ⟨rfl, ⟨kk, q + 1, bg, _, _, _, _, _, _, _, _, _, _, _, _, _, _, _, _, _, _, _, _, _, _, _, _, _, _, _, _, _, _, _, _, _, rfl, by have := HKK.out; rw [Int.add_mul, Int.one_mul]; exact this, by omega, ?_, hVk, HDEAD.out, H85.out, HG5.out, HB5.out⟩, ?_⟩
          rotate_left
          · show (M - intOf (Value.int .i64 kk)).toNat < (M - intOf (Value.int .i64 kk0)).toNat
            have h1 := HKK.out
            have h2 := HK0.out
            simp only [intOf]
            omega
          exact qq_lt HKK.out hend HM.out hU0
        · have de : decide (kk < M) = false := by simp; omega
          go_wp2
          try simp only [Exit.jump]
          go_ret
          exact ⟨-1, rfl, Or.inl ⟨rfl, fun i h1 h2 => HDEAD.out i h1 (by omega)⟩, HB5.out⟩


theorem next_err (x er : Int) (A : Option Addr) (n cp : Nat) (hx : 0 ≤ x) (hS : ∀ w, Calls Try.prog 12 #[.agg #[.int .i64 c, .int .i64 l, .int .i64 k, .int .i64 p, .int .i64 s], .int .i64 x] w fun e w' => e = .returned (.tuple #[.int .i64 0, .int .i64 0, .int .i64 er]) ∧ Below w.heap.size w w') (he : ¬ er = 0) (w : World) :
    Calls Try.prog 10 #[.agg #[.int .i64 c, .int .i64 l, .int .i64 k, .int .i64 p, .int .i64 s], .slice A n cp, .int .i64 x] w fun e w' => e = .returned (.int .i64 (-1)) ∧ Below w.heap.size w w' := by
  have HB := Lib.hid ((Below.refl w.heap.size w).alloc (Nat.le_refl _) (.cells #[.int .i64 c, .int .i64 l, .int .i64 k, .int .i64 p, .int .i64 s] 23))
  have HS := Lib.hid hS
  have dx : decide (x < 0) = false := by simp; omega
  clear hS
  go_enter Try.func10, Try.ntmps10
  go_wp2
  go_step3
  go_wp2_with fail
  refine (HS.out _).mono ?_
  rintro e w2 ⟨rfl, hb⟩
  replace HB := Lib.hid (below_then HB.out hb)
  clear hb
  go_wp2
  try rw [Exit.noGoto_ret]
  go_ret
  exact ⟨rfl, HB.out⟩

theorem next_err0 (x er : Int) (A : Option Addr) (n cp : Nat) (hx : x < 0) (hS : ∀ w, Calls Try.prog 12 #[.agg #[.int .i64 c, .int .i64 l, .int .i64 k, .int .i64 p, .int .i64 s], .int .i64 0] w fun e w' => e = .returned (.tuple #[.int .i64 0, .int .i64 0, .int .i64 er]) ∧ Below w.heap.size w w') (he : ¬ er = 0) (w : World) :
    Calls Try.prog 10 #[.agg #[.int .i64 c, .int .i64 l, .int .i64 k, .int .i64 p, .int .i64 s], .slice A n cp, .int .i64 x] w fun e w' => e = .returned (.int .i64 (-1)) ∧ Below w.heap.size w w' := by
  have HB := Lib.hid ((Below.refl w.heap.size w).alloc (Nat.le_refl _) (.cells #[.int .i64 c, .int .i64 l, .int .i64 k, .int .i64 p, .int .i64 s] 23))
  have HS := Lib.hid hS
  have dx : decide (x < 0) = true := by simp; omega
  clear hS
  go_enter Try.func10, Try.ntmps10
  go_wp2
  go_step3
  go_wp2_with fail
  refine (HS.out _).mono ?_
  rintro e w2 ⟨rfl, hb⟩
  replace HB := Lib.hid (below_then HB.out hb)
  clear hb
  go_wp2
  try rw [Exit.noGoto_ret]
  go_ret
  exact ⟨rfl, HB.out⟩

theorem Next_bad (h : ¬ Geom.ok c l k p s) (A : Option Addr) (n cp : Nat) (x : Int) (w : World) :
    Calls Try.prog 10 #[.agg #[.int .i64 c, .int .i64 l, .int .i64 k, .int .i64 p, .int .i64 s], .slice A n cp, .int .i64 x] w fun e w' => e = .returned (.int .i64 (-1)) ∧ Below w.heap.size w w' := by
  by_cases hx : x < 0
  · exact next_err0 x 1 A n cp hx (fun w => Spot_bad h 0 w) (by omega) w
  · exact next_err x 1 A n cp (by omega) (fun w => Spot_bad h x w) (by omega) w

theorem Next_ok (h : Geom.Sizes c l k p s U R L N) (A : Option Addr) (n cp B : Nat) (zs : List Int) (x : Int) (w : World) (hn : n ≤ maxLen) (hz : Nums w B A n zs) (hB : B ≤ w.heap.size) :
    Calls Try.prog 10 #[.agg #[.int .i64 c, .int .i64 l, .int .i64 k, .int .i64 p, .int .i64 s], .slice A n cp, .int .i64 x] w fun e w' => ∃ r, e = .returned (.int .i64 r) ∧ Nxt (live zs U) (max x 0) (U * p) r ∧ Below w.heap.size w w' := by
  have hup := Geom.mul_bd h.u0 h.u1 h.may.2.2.2.2.2.2.1 h.may.2.2.2.2.2.2.2.1
  by_cases hx : x < 0
  · rw [show max x 0 = 0 by omega]
    exact next_neg h A n cp B zs x w hn hz hB hx
  · rw [show max x 0 = x by omega]
    by_cases hx1 : x < U * p
    · exact next_pos h A n cp B zs x w hn hz hB (by omega) hx1
    · exact (next_err x 2 A n cp (by omega) (fun w => Spot_out h x (Or.inr (by omega)) w) (by omega) w).mono fun e w' ⟨h1, h2⟩ => ⟨-1, h1, Or.inl ⟨rfl, fun i g1 g2 => by omega⟩, h2⟩
end
end Go.Proofs.Ytenmdgclmjfimaa.StripePkg
