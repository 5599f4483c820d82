/-
  StripeAll holds: by Next each page of each unit that is not dead comes once, the pages of a unit rising, for every geometry and every list. No condition.
-/
import Derived.Test.YtenmdgclmjfimaaStripeKit
import Derived.Test.YtenmdgclmjfimaaInts
import Derived.OpenShut
namespace Go.Proofs.Ytenmdgclmjfimaa.stripeAll
open Go.RowKit Go.ChangeShapes Go.WideShapes Stripe StripePkg
set_option maxRecDepth 4000

/-- How many numbers below a have the unit j. -/
def pc (U j a : Int) : Int := (a + U - 1 - j) / U

theorem pc_zero {U j : Int} (h0 : 0 ≤ j) (h1 : j < U) : pc U j 0 = 0 := by
  have := (Geom.divmod (q := 0) (d := U) (r := U - 1 - j) (by omega) (by omega)).1
  unfold pc
  rw [Int.zero_mul, Int.zero_add] at this
  rw [show 0 + U - 1 - j = U - 1 - j by omega]
  exact this

theorem pc_all {U j P : Int} (h0 : 0 ≤ j) (h1 : j < U) : pc U j (U * P) = P := by
  have := (Geom.divmod (q := P) (d := U) (r := U - 1 - j) (by omega) (by omega)).1
  unfold pc
  rw [Int.mul_comm U P, show P * U + U - 1 - j = P * U + (U - 1 - j) by omega]
  exact this

theorem pc_next {U j q : Int} (h1 : 1 ≤ U) : pc U j (q * U + j + 1) = q + 1 := by
  have := (Geom.divmod (q := q + 1) (d := U) (r := 0) (by omega) (by omega)).1
  unfold pc
  rw [show q * U + j + 1 + U - 1 - j = (q + 1) * U + 0 by rw [Int.add_mul, Int.one_mul]; omega]
  exact this

theorem pc_step {U j i : Int} (hU : 1 ≤ U) (h0 : 0 ≤ j) (h1 : j < U) (hi : 0 ≤ i) (hne : i % U ≠ j) : pc U j (i + 1) = pc U j i := by
  obtain ⟨e, t0, t1, _⟩ := Stripe.split U i hU hi
  generalize i % U = t at e t0 t1 hne
  generalize i / U = q at e
  unfold pc
  by_cases c : t < j
  · rw [show i + 1 + U - 1 - j = q * U + (t + U - j) by omega, show i + U - 1 - j = q * U + (t + U - 1 - j) by omega, (Geom.divmod (q := q) (d := U) (r := t + U - j) (by omega) (by omega)).1, (Geom.divmod (q := q) (d := U) (r := t + U - 1 - j) (by omega) (by omega)).1]
  · have e1 : (q + 1) * U = q * U + U := by rw [Int.add_mul, Int.one_mul]
    rw [show i + 1 + U - 1 - j = (q + 1) * U + (t - j) by omega, show i + U - 1 - j = (q + 1) * U + (t - j - 1) by omega, (Geom.divmod (q := q + 1) (d := U) (r := t - j) (by omega) (by omega)).1, (Geom.divmod (q := q + 1) (d := U) (r := t - j - 1) (by omega) (by omega)).1]

theorem pc_same {U j a : Int} (hU : 1 ≤ U) (h0 : 0 ≤ j) (h1 : j < U) (ha : 0 ≤ a) : ∀ n : Nat, (∀ i, a ≤ i → i < a + n → i % U ≠ j) → pc U j (a + n) = pc U j a := by
  intro n
  induction n with
  | zero => intro _; rw [Int.natCast_zero, Int.add_zero]
  | succ n ih =>
    intro h
    rw [show a + ((n + 1 : Nat) : Int) = a + n + 1 by omega, pc_step hU h0 h1 (by omega) (h _ (by omega) (by omega))]
    exact ih fun i g1 g2 => h i g1 (by omega)

theorem pc_to {U j a b : Int} (hU : 1 ≤ U) (h0 : 0 ≤ j) (h1 : j < U) (ha : 0 ≤ a) (hab : a ≤ b) (h : ∀ i, a ≤ i → i < b → i % U ≠ j) : pc U j b = pc U j a := by
  have := pc_same hU h0 h1 ha (b - a).toNat (fun i g1 g2 => h i g1 (by omega))
  rwa [show a + (((b - a).toNat : Nat) : Int) = b by omega] at this

/-- What the pages of each unit have come to, ahead of the number a. -/
def cn (zs : List Int) (U a : Int) (j : Nat) : Int := if dd zs (j : Int) = true then 0 else pc U j a

theorem live_ne {zs : List Int} {U i : Int} {j : Nat} (hd : dd zs (j : Int) = false) (hl : live zs U i = false) : i % U ≠ (j : Int) := fun e => by
  unfold live at hl
  unfold dd at hd
  rw [e, hd] at hl
  cases hl

/-- A page comes. -/
theorem cn_come {zs : List Int} {U M a r q : Int} {y : Nat} (hU : 1 ≤ U) (ha : 0 ≤ a) (hy : (y : Int) < U) (hr : r = q * U + (y : Int)) (hq : 0 ≤ q) (h : Nxt (live zs U) a M r) (h0 : 0 ≤ r) :
    a ≤ r ∧ r < M ∧ cn zs U a y = q ∧ ∀ j : Nat, (j : Int) < U → cn zs U (r + 1) j = if j = y then q + 1 else cn zs U a j := by
  rcases h with ⟨e, _⟩ | ⟨h1, h2, h3, h4⟩
  · omega
  have hdy : dd zs (y : Int) = false := by
    have := live_at (zs := zs) (U := U) (q := q) (u := (y : Int)) (by omega) hy
    rw [← hr, h3] at this
    simpa using this.symm
  have hpy : pc U y (r + 1) = q + 1 := by rw [hr]; exact pc_next hU
  have hpa : pc U y r = q := by
    have h := (Geom.divmod (q := q) (d := U) (r := U - 1) (by omega) (by omega)).1
    unfold pc
    rw [hr, show q * U + (y : Int) + U - 1 - (y : Int) = q * U + (U - 1) by omega]
    exact h
  refine ⟨h1, h2, ?_, fun j hj => ?_⟩
  · unfold cn
    rw [if_neg (by rw [hdy]; simp), ← hpa]
    exact (pc_to hU (by omega) hy ha h1 (fun i g1 g2 => live_ne hdy (h4 i g1 g2))).symm
  · by_cases e : j = y
    · rw [if_pos e, e]
      unfold cn
      rw [if_neg (by rw [hdy]; simp)]
      exact hpy
    · rw [if_neg e]
      unfold cn
      by_cases hd : dd zs (j : Int) = true
      · rw [if_pos hd, if_pos hd]
      · rw [if_neg hd, if_neg hd]
        refine pc_to hU (by omega) hj ha (by omega) (fun i g1 g2 => ?_)
        by_cases c : i < r
        · exact live_ne (by simpa using hd) (h4 i g1 c)
        · rw [show i = r by omega, hr, (unit_of (by omega) hy).1]
          omega

/-- None comes any more. -/
theorem cn_end {zs : List Int} {U P a : Int} (hU : 1 ≤ U) (ha : 0 ≤ a) (haM : a ≤ U * P) (h : Nxt (live zs U) a (U * P) (-1)) {j : Nat} (hj : (j : Int) < U) : cn zs U a j = if dd zs (j : Int) = true then 0 else P := by
  have hn : ∀ i, a ≤ i → i < U * P → live zs U i = false := by
    rcases h with ⟨_, h1⟩ | ⟨h1, _⟩
    · exact h1
    · omega
  unfold cn
  by_cases hd : dd zs (j : Int) = true
  · rw [if_pos hd, if_pos hd]
  · rw [if_neg hd, if_neg hd]
    rw [← pc_to hU (by omega) hj ha haM (fun i g1 g2 => live_ne (by simpa using hd) (hn i g1 g2))]
    exact pc_all (by omega) hj

theorem info64 : intInfo Try.prog 3 := info_parts (by kernel_rfl)

theorem geo_one {w : World} {b Q i : Nat} {c l k p s v : Int} (hQ : b < Q) (h : Geo w b c l k p s) : Geo (w.setCell ⟨Q, i, none⟩ (.int .i64 v)) b c l k p s := by
  have one : ∀ j : Nat, (w.setCell ⟨Q, i, none⟩ (.int .i64 v)).cell? ⟨b, j, none⟩ = w.cell? ⟨b, j, none⟩ := fun j => World.cell?_setCell_other w _ _ _ (fun e => by injection e with e; omega)
  exact ⟨(one 0).trans h.1, (one 1).trans h.2.1, (one 2).trans h.2.2.1, (one 3).trans h.2.2.2.1, (one 4).trans h.2.2.2.2⟩

set_option maxHeartbeats 1600000 in
theorem walk (gc gl gk gp gs : Int) (A : Option Addr) (n c : Nat) (zs : List Int) (w : World) (hnc : n ≤ c) (hcm : c ≤ maxLen) (hr : Nums w w.heap.size A n zs) :
    Calls Try.prog 6 #[.agg #[.int .i64 gc, .int .i64 gl, .int .i64 gk, .int .i64 gp, .int .i64 gs], .slice A n c] w fun e w' => e = .returned (.bool true) ∧ Below w.heap.size w w' := by
  have HB := Lib.hid ((Below.refl w.heap.size w).alloc (Nat.le_refl _) (.cells #[.int .i64 gc, .int .i64 gl, .int .i64 gk, .int .i64 gp, .int .i64 gs] 23))
  have HG := Lib.hid (geo_new w 23 gc gl gk gp gs)
  have HZ := Lib.hid hr
  have hn : n ≤ maxLen := Nat.le_trans hnc hcm
  have HN := Lib.hid hn
  have hnm : n ≤ 9223372036854775807 := hn
  clear hr hnc hcm hn
  by_cases hok : Geom.ok gc gl gk gp gs
  rotate_left
  · have HR := Lib.hid (fun w => right_bad hok w)
    have HX := Lib.hid (fun w => Next_bad hok none 0 0 0 w)
    clear hok
    go_enter Try.func6, Try.ntmps6
    go_wp2_with fail
    refine (awake_any _).mono ?_
    rintro e w1 ⟨rfl, hb⟩
    replace HB := Lib.hid (below_then HB.out hb)
    replace HG := Lib.hid (geo_keep HG.out hb)
    obtain ⟨k0, k1, k2, k3, k4⟩ := HG.out
    clear hb
    go_wp2_with fail
    refine (HR.out _).mono ?_
    rintro e w2 ⟨rfl, hb⟩
    replace HB := Lib.hid (below_then HB.out hb)
    replace HG := Lib.hid (geo_keep HG.out hb)
    clear hb k0 k1 k2 k3 k4
    obtain ⟨k0, k1, k2, k3, k4⟩ := HG.out
    go_wp2_with fail
    refine (HX.out _).mono ?_
    rintro e w3 ⟨rfl, hb⟩
    replace HB := Lib.hid (below_then HB.out hb)
    clear hb k0 k1 k2 k3 k4
    go_wp2
    go_ret
    exact ⟨rfl, HB.out⟩
  have h := Geom.sizes hok
  have HR := Lib.hid (fun w => right_ok hok w)
  by_cases hbig : 100 < n
  · have hd : decide ((100 : Int) < (n : Int)) = true := by simp; omega
    clear hbig h hok
    go_enter Try.func6, Try.ntmps6
    go_wp2_with fail
    refine (awake_any _).mono ?_
    rintro e w1 ⟨rfl, hb⟩
    replace HB := Lib.hid (below_then HB.out hb)
    replace HG := Lib.hid (geo_keep HG.out hb)
    obtain ⟨k0, k1, k2, k3, k4⟩ := HG.out
    clear hb
    go_wp2_with fail
    refine (HR.out _).mono ?_
    rintro e w2 ⟨rfl, hb⟩
    replace HB := Lib.hid (below_then HB.out hb)
    clear hb k0 k1 k2 k3 k4
    go_wp2
    go_ret
    exact ⟨rfl, HB.out⟩
  have hd : decide ((100 : Int) < (n : Int)) = false := by simp; omega
  have HU := Lib.hid (fun w => Units_ok h w)
  have hup := Geom.mul_bd h.u0 h.u1 h.may.2.2.2.2.2.2.1 h.may.2.2.2.2.2.2.2.1
  have hp0 := h.may.2.2.2.2.2.2.1
  have hp1 := h.may.2.2.2.2.2.2.2.1
  have hu0 := h.u0
  have hu1 := h.u1
  have HNX := Lib.hid (fun wx x (hb : Below w.heap.size w wx) => Next_ok h A n c w.heap.size zs x wx HN.out (nums_keep HZ.out hb) hb.size)
  have HSP := Lib.hid (fun V h0 h1 => spot_is h V h0 h1)
  have HH := Lib.hid (fun y wx (hb : Below w.heap.size w wx) => StripeRef.Has_any A n c w.heap.size zs y wx HN.out (nums_keep HZ.out hb))
  clear hbig hok h HN HZ
  generalize gc * gl = U at HU hup hu0 hu1 HNX HSP
  obtain ⟨V, hV⟩ : ∃ V : Nat, U = (V : Int) := ⟨U.toNat, by omega⟩
  subst hV
  obtain ⟨M, hM⟩ : ∃ M : Nat, ((V : Nat) : Int) * gp = (M : Int) := ⟨((V : Int) * gp).toNat, by omega⟩
  have HMM := Lib.hid hM
  have hw1 : wrap64 ((V : Int) * gp) = (M : Int) := by rw [hM]; exact wrap_is (by omega) (by omega)
  have hw2 : IntKind.i64.wrap ((V : Int) * gp) = (M : Int) := by rw [hM]; exact kwrap_is (by omega) (by omega)
  have hM1 : M ≤ 1000 := by omega
  have hV8 : V ≤ 8 := by omega
  have hV1 : 1 ≤ V := by omega
  rw [hM] at HNX HSP
  clear hM hup hu0 hu1
  go_enter Try.func6, Try.ntmps6
  go_wp2_with fail
  refine (awake_any _).mono ?_
  rintro e w1 ⟨rfl, hb⟩
  replace HB := Lib.hid (below_then HB.out hb)
  replace HG := Lib.hid (geo_keep HG.out hb)
  obtain ⟨k0, k1, k2, k3, k4⟩ := HG.out
  clear hb
  go_wp2_with fail
  refine (HR.out _).mono ?_
  rintro e w2 ⟨rfl, hb⟩
  replace HB := Lib.hid (below_then HB.out hb)
  replace HG := Lib.hid (geo_keep HG.out hb)
  clear hb k0 k1 k2 k3 k4
  obtain ⟨k0, k1, k2, k3, k4⟩ := HG.out
  go_wp2_with fail
  refine (HU.out _).mono ?_
  rintro e w3 ⟨rfl, hb⟩
  replace HB := Lib.hid (below_then HB.out hb)
  replace HG := Lib.hid (geo_keep HG.out hb)
  clear hb k0 k1 k2 k3 k4
  have hmk := run_make_ints (P := Try.prog) w3 24 3 Try.underlying24 info64 .i64 .i64 V (by omega)
  have HI := Lib.hid (ints_made w3 3 V)
  have hbx : Below w3.heap.size w3 (w3.alloc (.cells (List.replicate V (Value.int .i64 0)).toArray 3)) := (Below.refl _ _).alloc (Nat.le_refl _) _
  have hQ : w.heap.size < w3.heap.size := World.block_lt_of_cell? _ _ HG.out.1
  have d1 : decide ((V : Int) < 1) = false := by simp; omega
  have d2 : decide ((8 : Int) < (V : Int)) = false := by simp; omega
  replace HB := Lib.hid (below_then HB.out hbx)
  replace HG := Lib.hid (geo_keep HG.out hbx)
  clear hbx
  generalize w3.alloc (.cells (List.replicate V (Value.int .i64 0)).toArray 3) = w0 at HI HB HG hmk
  generalize w3.heap.size = Q at HI hQ hmk
  obtain ⟨k0, k1, k2, k3, k4⟩ := HG.out
  go_wp2_with fail
  refine (HNX.out _ 0 HB.out).mono ?_
  rintro e w4 ⟨r, rfl, hnx, hb⟩
  replace HB := Lib.hid (below_then HB.out hb)
  replace HG := Lib.hid (geo_keep HG.out hb)
  replace HI := Lib.hid (ints_keep HI.out hb)
  clear hb k0 k1 k2 k3 k4 hmk
  have HST : Hid (∃ (i : Nat) (a r' : Int), Value.int .i64 0 = .int .i64 (i : Int) ∧ Value.int .i64 r = .int .i64 r' ∧ (i : Int) ≤ a ∧ a ≤ M ∧ Nxt (live zs V) a M r' ∧ Ints w4 Q V (cn zs V a) ∧ Geo w4 w.heap.size gc gl gk gp gs ∧ Below w.heap.size w w4) := Lib.hid ⟨0, 0, r, rfl, rfl, by omega, by omega, hnx, ints_eq HI.out (fun j hj => by unfold cn; split; rfl; exact (pc_zero (by omega) (by omega)).symm), HG.out, HB.out⟩
  clear hnx HI HG HB
  go_wp2
  go_loopw [9, 10] (fun kv iv wr => ∃ (i : Nat) (a r' : Int), iv = .int .i64 (i : Int) ∧ kv = .int .i64 r' ∧ (i : Int) ≤ a ∧ a ≤ M ∧ Nxt (live zs V) a M r' ∧ Ints wr Q V (cn zs V a) ∧ Geo wr w.heap.size gc gl gk gp gs ∧ Below w.heap.size w wr) (fun _ iv _ => M + 1 - (intOf iv).toNat)
  case atStart => exact HST.out
  case round =>
    clear HST
    obtain ⟨i, a, r', rfl, rfl, hia, haM, hnx, hi, hg, hb0⟩ := hrel
    have HNR := Lib.hid hnx
    have HI := Lib.hid hi
    have HG := Lib.hid hg
    have HB := Lib.hid hb0
    clear hi hg hb0
    obtain ⟨k0, k1, k2, k3, k4⟩ := HG.out
    have e0 : decide ((i : Int) ≤ (M : Int)) = true := by simp; omega
    by_cases hr0 : 0 ≤ r'
    · have hlt : r' < M := by
        rcases hnx with ⟨e, _⟩ | ⟨_, h, _⟩
        · omega
        · exact h
      obtain ⟨u, q, hu0, hu1, hq0, hq1, hV, hS⟩ := HSP.out r' hr0 hlt
      obtain ⟨y, rfl⟩ : ∃ y : Nat, u = (y : Int) := ⟨u.toNat, by omega⟩
      have hyV : y < V := by omega
      obtain ⟨_, _, hcy, hcn⟩ := cn_come (zs := zs) (U := (V : Int)) (M := (M : Int)) (a := a) (r := r') (q := q) (y := y) (by omega) (by omega) hu1 hV hq0 hnx hr0
      have hcell := (HI.out y hyV).1
      have hfree := (HI.out y hyV).2
      rw [hcy] at hcell
      have HCN := Lib.hid hcn
      have HV := Lib.hid hV
      have hqb : q ≤ 32 := by omega
      have e1 : decide (r' < 0) = false := by simp; omega
      have e2 : wrap64 (r' + 1) = r' + 1 := wrap_is (by omega) (by omega)
      have e3 : wrap64 (q + 1) = q + 1 := wrap_is (by omega) (by omega)
      clear hcn hV hcy hnx
      go_wp2_with fail
      refine (hS _).mono ?_
      rintro e w5 ⟨rfl, hb⟩
      replace HB := Lib.hid (below_then HB.out hb)
      replace HG := Lib.hid (geo_keep HG.out hb)
      replace hfree := frozen_stays hb hcell hfree
      replace hcell := cell_stays hb hcell
      replace HI := Lib.hid (ints_keep HI.out hb)
      clear hb k0 k1 k2 k3 k4
      have HI2 := Lib.hid (ints_eq (ints_set HI.out hyV (q + 1)) (g := cn zs V (r' + 1)) (fun j hj => (HCN.out j (by omega)).symm))
      have hg2 : Geo (w5.setCell ⟨Q, y, none⟩ (.int .i64 (q + 1))) w.heap.size gc gl gk gp gs := geo_one hQ HG.out
      have hb2 : Below w.heap.size w (w5.setCell ⟨Q, y, none⟩ (.int .i64 (q + 1))) := HB.out.setCell (Nat.le_of_lt hQ) _
      obtain ⟨k0, k1, k2, k3, k4⟩ := HG.out
      obtain ⟨j0, j1, j2, j3, j4⟩ := hg2
      have HG2 : Hid (Geo (w5.setCell ⟨Q, y, none⟩ (.int .i64 (q + 1))) w.heap.size gc gl gk gp gs) := Lib.hid ⟨j0, j1, j2, j3, j4⟩
      have hyl : (y : Int) < (V : Int) := by omega
      go_wp2_with fail
      refine (HNX.out _ (r' + 1) hb2).mono ?_
      rintro e w6 ⟨r2, rfl, hn2, hb⟩
      rw [show max (r' + 1) 0 = r' + 1 by omega] at hn2
      have HN2 := Lib.hid hn2
      have HI6 := Lib.hid (ints_keep HI2.out hb)
      have HG6 := Lib.hid (geo_keep HG2.out hb)
      have HB6 := Lib.hid (below_then hb2 hb)
      have hial : (i : Int) ≤ r' := by
        rcases HNR.out with ⟨e, _⟩ | ⟨h, _⟩
        · omega
        · omega
      clear hb hb2 k0 k1 k2 k3 k4 j0 j1 j2 j3 j4 hn2
      go_wp2
      go_roundw
      case measure => simp [intOf]; omega
      case rel => exact ⟨i + 1, r' + 1, r2, by go_num, rfl, by omega, by omega, HN2.out, HI6.out, HG6.out, HB6.out⟩
    · have hr1 : r' = -1 := by
        rcases hnx with ⟨e, _⟩ | ⟨h, _⟩
        · exact e
        · omega
      subst hr1
      have hend : ∀ j : Nat, j < V → cn zs V a j = if dd zs (j : Int) = true then 0 else gp := fun j hj => by
        refine cn_end (by omega) (by omega) (by rw [HMM.out]; exact haM) (by rw [HMM.out]; exact hnx) (by omega)
      have HE := Lib.hid (ints_eq HI.out hend)
      clear hnx hend HNR HI
      go_wp2
      clear k0 k1 k2 k3 k4
      go_loopw [14] (fun uv wr => ∃ u : Nat, uv = .int .i64 (u : Int) ∧ u ≤ V ∧ Ints wr Q V (fun j => if dd zs (j : Int) = true then 0 else gp) ∧ Geo wr w.heap.size gc gl gk gp gs ∧ Below w.heap.size w wr) (fun uv _ => V - (intOf uv).toNat)
      case atStart => exact ⟨0, rfl, by omega, HE.out, HG.out, HB.out⟩
      case round =>
        clear HE HG HB
        obtain ⟨u, rfl, hu, hi, hg, hb0⟩ := hrel
        have HI := Lib.hid hi
        have HG := Lib.hid hg
        have HB := Lib.hid hb0
        clear hi hg hb0
        obtain ⟨k0, k1, k2, k3, k4⟩ := HG.out
        by_cases hult : u < V
        · have hc := (HI.out u hult).1
          have hul : (u : Int) < (V : Int) := by omega
          go_wp2_with fail
          refine (HH.out (u : Int) _ HB.out).mono ?_
          rintro e w7 ⟨rfl, hw⟩
          subst w7
          cases hdd : dd zs (u : Int) with
          | false =>
            rw [hdd] at hc
            replace hc : wr.cell? ⟨Q, u, none⟩ = some (.int .i64 gp) := hc
            clear hdd
            go_wp2_with fail
            go_quiet (fail)
            go_wp2
            go_roundw
            case measure => simp [intOf]; omega
            case rel => exact ⟨u + 1, by go_num, by omega, ints_keep HI.out (StripeRef.below_drawn (Below.refl _ _) _), geo_keep HG.out (StripeRef.below_drawn (Below.refl _ _) _), StripeRef.below_drawn HB.out _⟩
          | true =>
            rw [hdd] at hc
            replace hc : wr.cell? ⟨Q, u, none⟩ = some (.int .i64 0) := hc
            clear hdd
            go_wp2_with fail
            go_quiet (fail)
            go_wp2
            go_roundw
            case measure => simp [intOf]; omega
            case rel => exact ⟨u + 1, by go_num, by omega, ints_keep HI.out (StripeRef.below_drawn (Below.refl _ _) _), geo_keep HG.out (StripeRef.below_drawn (Below.refl _ _) _), StripeRef.below_drawn HB.out _⟩
        · go_wp2
          go_ret
          exact ⟨rfl, HB.out⟩

theorem own : ownKnob Try.prog.godebug = none := by kernel_rfl
theorem laid : laidOutB Try.prog = true := by kernel_rfl
theorem one64 : Try.prog.cellsOf 3 = 1 := by kernel_rfl

set_option maxRecDepth 100000 in
theorem lifted (os : Os) (started : os.Started) (H : Type) (enc : TypeId × Value → H) :
    ReturnsInHanded {} Try.checked os 6 .any (Rows.stripeAllSpec.pre6 enc Try.prog Try.f6 Rows.stripeAllRow.domain false) (Rows.stripeAllSpec.post enc Try.prog Try.f6 false true false false) := by
  refine returnsInHanded_of_change (C := Try.checked) own started (by kernel_rfl) Try.func6
    (ChangeSpec.witness6 (enc := enc) (C := Try.checked) false ⟨#[], #[.agg #[.int .i64 0, .int .i64 0, .int .i64 0, .int .i64 0, .int .i64 0], .slice none 0 0], []⟩ 8 (by kernel_rfl) (by kernel_rfl) (by kernel_rfl) (by kernel_rfl)) ?_
  intro W base args ds gs before hval0 hW _ _
  have hval : ∀ (j : Nat) t v, Try.f6.params[j]? = some t → args[j]? = some v → Value.okWide Try.prog W .any base t v := hval0
  have hW' := hW
  obtain ⟨p, q, hA0, hV, rfl, hfz, hnd⟩ := hW
  have hA : DataW.TrodAll enc Try.prog W 0 (fun _ => true) true Try.f6.params.toList args.toList ds p := hA0
  rw [Try.params6] at hA hval
  obtain ⟨v0, v1, d0, d1, p0, p1, rfl, rfl, rfl, h0, h1⟩ := trodAll_two hA
  obtain ⟨c0, l0, k0, q0, s0, rfl⟩ := open_geo Try.underlying23 rfl (by kernel_rfl) (by kernel_rfl) (hval 0 23 v0 rfl rfl) h0
  obtain ⟨A1, n1, c1, zs1, rfl, hnc1, hcm1, hr1⟩ := open_nums Try.underlying24 Try.underlying3 one64 (hval 1 24 v1 rfl rfl) h1
  refine (walk c0 l0 k0 q0 s0 A1 n1 c1 zs1 W hnc1 hcm1 hr1).mono fun e W' ⟨he, hb⟩ => ?_
  subst he
  exact ⟨_, rfl, Law.post laid (by kernel_rfl) (by kernel_rfl) Try.underlying4 rfl hW' rfl hb⟩

theorem proved : Rows.StripeAllSaid :=
  OpenClaim.holds_of_wide 6 Try.f6 rfl rfl rfl rfl rfl rfl rfl ⟨rfl, rfl, rfl, rfl, rfl⟩ rfl rfl rfl rfl rfl (by kernel_rfl) Try.func6 (by kernel_rfl)
    (of_decide_eq_true (by kernel_rfl)) (by unfold Func.isWrapper; first | (rw [if_pos (by decide +kernel)]; kernel_rfl) | (rw [if_neg (by decide +kernel)]; exact ⟨rfl, rfl⟩))
    (fun os started H enc _ => lifted os started H enc)

end Go.Proofs.Ytenmdgclmjfimaa.stripeAll
