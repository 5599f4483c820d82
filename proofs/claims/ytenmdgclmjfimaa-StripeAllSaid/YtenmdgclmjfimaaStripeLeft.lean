/-
  What Left of package stripe does: for every input.
-/
import Derived.Test.YtenmdgclmjfimaaStripeNext
namespace Go.Proofs.Ytenmdgclmjfimaa.StripePkg
open Go.RowKit Stripe
set_option maxRecDepth 4000

section
variable {c l k p s U R L N : Int}

theorem left_start {v q : Nat} {w w3 : World} {zs : List Int} {m : Int} (hG : Geo w3 w.heap.size c l k p s) (hB : Below w.heap.size w w3) (hm : m = ((many zs U v q : Nat) : Int)) (hq : q = v) :
    ∃ kk : Nat, Value.int .i64 (v : Int) = .int .i64 (kk : Int) ∧ Value.int .i64 m = .int .i64 ((many zs U v kk : Nat) : Int) ∧ v ≤ kk ∧ (kk = v ∨ kk ≤ (U * p).toNat) ∧ Eight (w3.alloc (.cells #[.bool (dd zs 0), .bool (dd zs 1), .bool (dd zs 2), .bool (dd zs 3), .bool (dd zs 4), .bool (dd zs 5), .bool (dd zs 6), .bool (dd zs 7)] 45)) w3.heap.size zs ∧ Geo (w3.alloc (.cells #[.bool (dd zs 0), .bool (dd zs 1), .bool (dd zs 2), .bool (dd zs 3), .bool (dd zs 4), .bool (dd zs 5), .bool (dd zs 6), .bool (dd zs 7)] 45)) w.heap.size c l k p s ∧ Below w.heap.size w (w3.alloc (.cells #[.bool (dd zs 0), .bool (dd zs 1), .bool (dd zs 2), .bool (dd zs 3), .bool (dd zs 4), .bool (dd zs 5), .bool (dd zs 6), .bool (dd zs 7)] 45)) := by
  subst hq
  exact ⟨q, rfl, by rw [hm], Nat.le_refl _, Or.inl rfl, eight_made _ _ _, geo_keep hG ((Below.refl _ _).alloc (Nat.le_refl _) _), hB.alloc hB.size _⟩

set_option maxHeartbeats 800000 in
theorem left_pos (h : Geom.Sizes c l k p s U R L N) (A : Option Addr) (n cp B : Nat) (zs : List Int) (x : Nat) (w : World) (hn : n ≤ maxLen) (hz : Nums w B A n zs) (hB : B ≤ w.heap.size) :
    Calls Try.prog 16 #[.agg #[.int .i64 c, .int .i64 l, .int .i64 k, .int .i64 p, .int .i64 s], .slice A n cp, .int .i64 (x : Int)] w fun e w' => e = .returned (.int .i64 ((many zs U x (U * p).toNat : Nat) : Int)) ∧ Below w.heap.size w w' := by
  have HB := Lib.hid ((Below.refl w.heap.size w).alloc (Nat.le_refl _) (.cells #[.int .i64 c, .int .i64 l, .int .i64 k, .int .i64 p, .int .i64 s] 23))
  have HG := Lib.hid (geo_new w 23 c l k p s)
  have hup := Geom.mul_bd h.u0 h.u1 h.may.2.2.2.2.2.2.1 h.may.2.2.2.2.2.2.2.1
  have HDO := Lib.hid (fun wr (hb : Below w.heap.size w wr) => deadOnes_any A n cp B zs wr hn (nums_keep hz (hb.mono hB)) (Nat.le_trans hB hb.size))
  have HS := Lib.hid (fun V h0 h1 => spot_is h V h0 h1)
  have HO := Lib.hid (fun V hV w => Spot_out h V hV w)
  have dx : decide ((x : Int) < 0) = false := by simp
  have hU1 := h.u1
  have hU0 := h.u0
  obtain ⟨M, hM⟩ : ∃ M : Nat, M = (U * p).toNat := ⟨_, rfl⟩
  have HM : Hid ((M : Int) = U * p) := Lib.hid (by omega)
  obtain ⟨ans, hans⟩ : ∃ ans : Int, ans = ((many zs U x M : Nat) : Int) := ⟨_, rfl⟩
  have HA := Lib.hid hans
  have hM2 : M ≤ 1000 := by omega
  rw [← hM, ← hans]
  clear h hz hn hup hans
  go_enter Try.func16, Try.ntmps16
  go_wp2
  go_step3
  go_wp2_with fail
  refine (HDO.out _ HB.out).mono ?_
  rintro e w3 ⟨rfl, hb⟩
  replace HB := Lib.hid (below_then HB.out hb)
  replace HG := Lib.hid (geo_keep HG.out hb)
  clear hb
  have HSTART := Lib.hid (left_start (U := U) (p := p) (v := x) (zs := zs) (m := 0) HG.out HB.out (by rw [many_start zs U x x (Nat.le_refl _)]; rfl) rfl)
  rw [← hM] at HSTART
  clear hM
  go_wp2
  go_step3
  go_wp2
  generalize w3.heap.size = bg at HSTART ⊢
  generalize (w3.alloc (.cells #[.bool (dd zs 0), .bool (dd zs 1), .bool (dd zs 2), .bool (dd zs 3), .bool (dd zs 4), .bool (dd zs 5), .bool (dd zs 6), .bool (dd zs 7)] 45)) = X at HSTART ⊢
  clear HG HB
  go_loopw [2, 8] (fun kv mv wr => ∃ kk : Nat, kv = .int .i64 (kk : Int) ∧ mv = .int .i64 ((many zs U x kk : Nat) : Int) ∧ x ≤ kk ∧ (kk = x ∨ kk ≤ M) ∧ Eight wr bg zs ∧ Geo wr w.heap.size c l k p s ∧ Below w.heap.size w wr) (fun kv _ _ => M - (intOf kv).toNat)
  case atStart => exact HSTART.out
  case round =>
    clear HSTART
    obtain ⟨kk, rfl, rfl, hvk, hkM, h8, hgeo, hbw⟩ := hrel
    have H8 := Lib.hid h8
    have HGE := Lib.hid hgeo
    have HBW := Lib.hid hbw
    obtain ⟨k0, k1, k2, k3, k4⟩ := hgeo
    clear h8 hbw
    obtain ⟨mm, hmm⟩ : ∃ mm : Int, mm = ((many zs U x kk : Nat) : Int) := ⟨_, rfl⟩
    have HMM := Lib.hid hmm
    rw [← hmm]
    by_cases hlt : kk < M
    · obtain ⟨u, g, hu0, hu1, hg0, hg1, hV, hS⟩ := HS.out (kk : Int) (by omega) (by have := HM.out; omega)
      have hml := many_le zs U x kk
      have hmb : 0 ≤ mm ∧ mm ≤ 1000 := by omega
      have HV := Lib.hid hV
      obtain ⟨y, rfl⟩ : ∃ y : Nat, u = (y : Int) := ⟨u.toNat, by omega⟩
      have hy8 : y < 8 := by omega
      have HL := Lib.hid (live_at (zs := zs) (U := U) (q := g) (u := (y : Int)) hu0 hu1)
      rw [← hV] at HL
      have hyl : (y : Int) < 8 := by omega
      clear hV hmm hml
      go_wp2_with fail
      refine (hS _).mono ?_
      rintro e w5 ⟨rfl, hb⟩
      have hc := (eight_keep H8.out hb y hy8).1
      have H85 := Lib.hid (eight_keep H8.out hb)
      have HG5 := Lib.hid (geo_keep HGE.out hb)
      have HB5 := Lib.hid (below_then HBW.out hb)
      clear hb k0 k1 k2 k3 k4 hS
      cases hdd : dd zs (y : Int) with
      | false =>
        rw [hdd] at hc HL
        have HL' : Hid (live zs U (kk : Int) = true) := HL
        clear hdd
        go_wp2
        go_roundw
        case measure => simp [intOf]; omega
        case rel =>
          refine ⟨kk + 1, by go_num, ?_, by omega, Or.inr (by omega), H85.out, HG5.out, HB5.out⟩
          rw [many_yes HL'.out (by omega), HMM.out]
          go_num
      | true =>
        rw [hdd] at hc HL
        have HL' : Hid (live zs U (kk : Int) = false) := HL
        clear hdd
        go_wp2
        go_roundw
        case measure => simp [intOf]; omega
        case rel =>
          refine ⟨kk + 1, by go_num, ?_, by omega, Or.inr (by omega), H85.out, HG5.out, HB5.out⟩
          rw [many_no HL'.out, HMM.out]
    · have hS := HO.out (kk : Int) (Or.inr (by have := HM.out; omega))
      have HANS : Hid (mm = ans) := Lib.hid (by
        rw [HA.out, HMM.out]
        rcases hkM with e | e
        · have e1 := many_start zs U x kk (by omega)
          have e2 := many_start zs U x M (by omega)
          have e3 : many zs U x kk = 0 := e1
          have e4 : many zs U x M = 0 := e2
          rw [e3, e4]
        · rw [show kk = M by omega])
      clear hmm
      go_wp2_with fail
      refine (hS _).mono ?_
      rintro e w5 ⟨rfl, hb⟩
      have HB5 := Lib.hid (below_then HBW.out hb)
      clear hb k0 k1 k2 k3 k4 hS
      go_wp2
      try rw [Exit.noGoto_ret]
      go_ret
      exact ⟨ret_int HANS.out, HB5.out⟩

set_option maxHeartbeats 800000 in
theorem left_neg (h : Geom.Sizes c l k p s U R L N) (A : Option Addr) (n cp B : Nat) (zs : List Int) (x : Int) (w : World) (hn : n ≤ maxLen) (hz : Nums w B A n zs) (hB : B ≤ w.heap.size) (hx : x < 0) :
    Calls Try.prog 16 #[.agg #[.int .i64 c, .int .i64 l, .int .i64 k, .int .i64 p, .int .i64 s], .slice A n cp, .int .i64 x] w fun e w' => e = .returned (.int .i64 ((many zs U 0 (U * p).toNat : Nat) : Int)) ∧ Below w.heap.size w w' := by
  have HB := Lib.hid ((Below.refl w.heap.size w).alloc (Nat.le_refl _) (.cells #[.int .i64 c, .int .i64 l, .int .i64 k, .int .i64 p, .int .i64 s] 23))
  have HG := Lib.hid (geo_new w 23 c l k p s)
  have hup := Geom.mul_bd h.u0 h.u1 h.may.2.2.2.2.2.2.1 h.may.2.2.2.2.2.2.2.1
  have HDO := Lib.hid (fun wr (hb : Below w.heap.size w wr) => deadOnes_any A n cp B zs wr hn (nums_keep hz (hb.mono hB)) (Nat.le_trans hB hb.size))
  have HS := Lib.hid (fun V h0 h1 => spot_is h V h0 h1)
  have HO := Lib.hid (fun V hV w => Spot_out h V hV w)
  have dx : decide (x < 0) = true := by simp; omega
  have hU1 := h.u1
  have hU0 := h.u0
  obtain ⟨M, hM⟩ : ∃ M : Nat, M = (U * p).toNat := ⟨_, rfl⟩
  have HM : Hid ((M : Int) = U * p) := Lib.hid (by omega)
  obtain ⟨ans, hans⟩ : ∃ ans : Int, ans = ((many zs U 0 M : Nat) : Int) := ⟨_, rfl⟩
  have HA := Lib.hid hans
  have hM2 : M ≤ 1000 := by omega
  rw [← hM, ← hans]
  clear h hz hn hup hans
  go_enter Try.func16, Try.ntmps16
  go_wp2
  go_step3
  go_wp2_with fail
  refine (HDO.out _ HB.out).mono ?_
  rintro e w3 ⟨rfl, hb⟩
  replace HB := Lib.hid (below_then HB.out hb)
  replace HG := Lib.hid (geo_keep HG.out hb)
  clear hb
  have HSTART := Lib.hid (left_start (U := U) (p := p) (v := 0) (zs := zs) (m := 0) HG.out HB.out (by rw [many_start zs U 0 0 (Nat.le_refl _)]; rfl) rfl)
  rw [← hM] at HSTART
  clear hM
  go_wp2
  go_step3
  go_wp2
  generalize w3.heap.size = bg at HSTART ⊢
  generalize (w3.alloc (.cells #[.bool (dd zs 0), .bool (dd zs 1), .bool (dd zs 2), .bool (dd zs 3), .bool (dd zs 4), .bool (dd zs 5), .bool (dd zs 6), .bool (dd zs 7)] 45)) = X at HSTART ⊢
  clear HG HB
  go_loopw [2, 8] (fun kv mv wr => ∃ kk : Nat, kv = .int .i64 (kk : Int) ∧ mv = .int .i64 ((many zs U 0 kk : Nat) : Int) ∧ 0 ≤ kk ∧ (kk = 0 ∨ kk ≤ M) ∧ Eight wr bg zs ∧ Geo wr w.heap.size c l k p s ∧ Below w.heap.size w wr) (fun kv _ _ => M - (intOf kv).toNat)
  case atStart => exact HSTART.out
  case round =>
    clear HSTART
    obtain ⟨kk, rfl, rfl, hvk, hkM, h8, hgeo, hbw⟩ := hrel
    have H8 := Lib.hid h8
    have HGE := Lib.hid hgeo
    have HBW := Lib.hid hbw
    obtain ⟨k0, k1, k2, k3, k4⟩ := hgeo
    clear h8 hbw
    obtain ⟨mm, hmm⟩ : ∃ mm : Int, mm = ((many zs U 0 kk : Nat) : Int) := ⟨_, rfl⟩
    have HMM := Lib.hid hmm
    rw [← hmm]
    by_cases hlt : kk < M
    · obtain ⟨u, g, hu0, hu1, hg0, hg1, hV, hS⟩ := HS.out (kk : Int) (by omega) (by have := HM.out; omega)
      have hml := many_le zs U 0 kk
      have hmb : 0 ≤ mm ∧ mm ≤ 1000 := by omega
      have HV := Lib.hid hV
      obtain ⟨y, rfl⟩ : ∃ y : Nat, u = (y : Int) := ⟨u.toNat, by omega⟩
      have hy8 : y < 8 := by omega
      have HL := Lib.hid (live_at (zs := zs) (U := U) (q := g) (u := (y : Int)) hu0 hu1)
      rw [← hV] at HL
      have hyl : (y : Int) < 8 := by omega
      clear hV hmm hml
      go_wp2_with fail
      refine (hS _).mono ?_
      rintro e w5 ⟨rfl, hb⟩
      have hc := (eight_keep H8.out hb y hy8).1
      have H85 := Lib.hid (eight_keep H8.out hb)
      have HG5 := Lib.hid (geo_keep HGE.out hb)
      have HB5 := Lib.hid (below_then HBW.out hb)
      clear hb k0 k1 k2 k3 k4 hS
      cases hdd : dd zs (y : Int) with
      | false =>
        rw [hdd] at hc HL
        have HL' : Hid (live zs U (kk : Int) = true) := HL
        clear hdd
        go_wp2
        go_roundw
        case measure => simp [intOf]; omega
        case rel =>
          refine ⟨kk + 1, by go_num, ?_, by omega, Or.inr (by omega), H85.out, HG5.out, HB5.out⟩
          rw [many_yes HL'.out (by omega), HMM.out]
          go_num
      | true =>
        rw [hdd] at hc HL
        have HL' : Hid (live zs U (kk : Int) = false) := HL
        clear hdd
        go_wp2
        go_roundw
        case measure => simp [intOf]; omega
        case rel =>
          refine ⟨kk + 1, by go_num, ?_, by omega, Or.inr (by omega), H85.out, HG5.out, HB5.out⟩
          rw [many_no HL'.out, HMM.out]
    · have hS := HO.out (kk : Int) (Or.inr (by have := HM.out; omega))
      have HANS : Hid (mm = ans) := Lib.hid (by
        rw [HA.out, HMM.out]
        rcases hkM with e | e
        · have e1 := many_start zs U 0 kk (by omega)
          have e2 := many_start zs U 0 M (by omega)
          have e3 : many zs U 0 kk = 0 := e1
          have e4 : many zs U 0 M = 0 := e2
          rw [e3, e4]
        · rw [show kk = M by omega])
      clear hmm
      go_wp2_with fail
      refine (hS _).mono ?_
      rintro e w5 ⟨rfl, hb⟩
      have HB5 := Lib.hid (below_then HBW.out hb)
      clear hb k0 k1 k2 k3 k4 hS
      go_wp2
      try rw [Exit.noGoto_ret]
      go_ret
      exact ⟨ret_int HANS.out, HB5.out⟩

theorem left_err (x er : Int) (A : Option Addr) (n cp B : Nat) (zs : List Int) (hx : 0 ≤ x) (hS : ∀ w, Calls Try.prog 12 #[.agg #[.int .i64 c, .int .i64 l, .int .i64 k, .int .i64 p, .int .i64 s], .int .i64 x] w fun e w' => e = .returned (.tuple #[.int .i64 0, .int .i64 0, .int .i64 er]) ∧ Below w.heap.size w w') (he : ¬ er = 0) (w : World) (hn : n ≤ maxLen) (hz : Nums w B A n zs) (hB : B ≤ w.heap.size) :
    Calls Try.prog 16 #[.agg #[.int .i64 c, .int .i64 l, .int .i64 k, .int .i64 p, .int .i64 s], .slice A n cp, .int .i64 x] w fun e w' => e = .returned (.int .i64 0) ∧ Below w.heap.size w w' := by
  have HB := Lib.hid ((Below.refl w.heap.size w).alloc (Nat.le_refl _) (.cells #[.int .i64 c, .int .i64 l, .int .i64 k, .int .i64 p, .int .i64 s] 23))
  have HG := Lib.hid (geo_new w 23 c l k p s)
  have HDO := Lib.hid (fun wr (hb : Below w.heap.size w wr) => deadOnes_any A n cp B zs wr hn (nums_keep hz (hb.mono hB)) (Nat.le_trans hB hb.size))
  have HS := Lib.hid hS
  have dx : decide (x < 0) = false := by simp; omega
  clear hS hn hz
  go_enter Try.func16, Try.ntmps16
  go_wp2
  go_step3
  go_wp2_with fail
  refine (HDO.out _ HB.out).mono ?_
  rintro e w3 ⟨rfl, hb⟩
  replace HB := Lib.hid (below_then HB.out hb)
  replace HG := Lib.hid (geo_keep HG.out hb)
  clear hb
  have HSTART : Hid (Geo (w3.alloc (.cells #[.bool (dd zs 0), .bool (dd zs 1), .bool (dd zs 2), .bool (dd zs 3), .bool (dd zs 4), .bool (dd zs 5), .bool (dd zs 6), .bool (dd zs 7)] 45)) w.heap.size c l k p s ∧ Below w.heap.size w (w3.alloc (.cells #[.bool (dd zs 0), .bool (dd zs 1), .bool (dd zs 2), .bool (dd zs 3), .bool (dd zs 4), .bool (dd zs 5), .bool (dd zs 6), .bool (dd zs 7)] 45))) := Lib.hid ⟨geo_keep HG.out ((Below.refl _ _).alloc (Nat.le_refl _) _), HB.out.alloc HB.out.size _⟩
  go_wp2
  go_step3
  go_wp2
  generalize w3.heap.size = bg
  generalize (w3.alloc (.cells #[.bool (dd zs 0), .bool (dd zs 1), .bool (dd zs 2), .bool (dd zs 3), .bool (dd zs 4), .bool (dd zs 5), .bool (dd zs 6), .bool (dd zs 7)] 45)) = X at HSTART ⊢
  clear HG HB
  go_loopw [2, 8] (fun kv mv wr => kv = .int .i64 x ∧ mv = .int .i64 0 ∧ Geo wr w.heap.size c l k p s ∧ Below w.heap.size w wr) (fun _ _ _ => 0)
  case atStart => exact ⟨rfl, rfl, HSTART.out⟩
  case round =>
    clear HSTART
    obtain ⟨rfl, rfl, ⟨k0, k1, k2, k3, k4⟩, hbw⟩ := hrel
    have HBW := Lib.hid hbw
    clear hbw
    go_wp2_with fail
    refine (HS.out _).mono ?_
    rintro e w5 ⟨rfl, hb⟩
    have HB5 := Lib.hid (below_then HBW.out hb)
    clear hb k0 k1 k2 k3 k4
    go_wp2
    try rw [Exit.noGoto_ret]
    go_ret
    exact ⟨rfl, HB5.out⟩

theorem left_err0 (x er : Int) (A : Option Addr) (n cp B : Nat) (zs : List Int) (hx : x < 0) (hS : ∀ w, Calls Try.prog 12 #[.agg #[.int .i64 c, .int .i64 l, .int .i64 k, .int .i64 p, .int .i64 s], .int .i64 0] w fun e w' => e = .returned (.tuple #[.int .i64 0, .int .i64 0, .int .i64 er]) ∧ Below w.heap.size w w') (he : ¬ er = 0) (w : World) (hn : n ≤ maxLen) (hz : Nums w B A n zs) (hB : B ≤ w.heap.size) :
    Calls Try.prog 16 #[.agg #[.int .i64 c, .int .i64 l, .int .i64 k, .int .i64 p, .int .i64 s], .slice A n cp, .int .i64 x] w fun e w' => e = .returned (.int .i64 0) ∧ Below w.heap.size w w' := by
  have HB := Lib.hid ((Below.refl w.heap.size w).alloc (Nat.le_refl _) (.cells #[.int .i64 c, .int .i64 l, .int .i64 k, .int .i64 p, .int .i64 s] 23))
  have HG := Lib.hid (geo_new w 23 c l k p s)
  have HDO := Lib.hid (fun wr (hb : Below w.heap.size w wr) => deadOnes_any A n cp B zs wr hn (nums_keep hz (hb.mono hB)) (Nat.le_trans hB hb.size))
  have HS := Lib.hid hS
  have dx : decide (x < 0) = true := by simp; omega
  clear hS hn hz
  go_enter Try.func16, Try.ntmps16
  go_wp2
  go_step3
  go_wp2_with fail
  refine (HDO.out _ HB.out).mono ?_
  rintro e w3 ⟨rfl, hb⟩
  replace HB := Lib.hid (below_then HB.out hb)
  replace HG := Lib.hid (geo_keep HG.out hb)
  clear hb
  have HSTART : Hid (Geo (w3.alloc (.cells #[.bool (dd zs 0), .bool (dd zs 1), .bool (dd zs 2), .bool (dd zs 3), .bool (dd zs 4), .bool (dd zs 5), .bool (dd zs 6), .bool (dd zs 7)] 45)) w.heap.size c l k p s ∧ Below w.heap.size w (w3.alloc (.cells #[.bool (dd zs 0), .bool (dd zs 1), .bool (dd zs 2), .bool (dd zs 3), .bool (dd zs 4), .bool (dd zs 5), .bool (dd zs 6), .bool (dd zs 7)] 45))) := Lib.hid ⟨geo_keep HG.out ((Below.refl _ _).alloc (Nat.le_refl _) _), HB.out.alloc HB.out.size _⟩
  go_wp2
  go_step3
  go_wp2
  generalize w3.heap.size = bg
  generalize (w3.alloc (.cells #[.bool (dd zs 0), .bool (dd zs 1), .bool (dd zs 2), .bool (dd zs 3), .bool (dd zs 4), .bool (dd zs 5), .bool (dd zs 6), .bool (dd zs 7)] 45)) = X at HSTART ⊢
  clear HG HB
  go_loopw [2, 8] (fun kv mv wr => kv = .int .i64 0 ∧ mv = .int .i64 0 ∧ Geo wr w.heap.size c l k p s ∧ Below w.heap.size w wr) (fun _ _ _ => 0)
  case atStart => exact ⟨rfl, rfl, HSTART.out⟩
  case round =>
    clear HSTART
    obtain ⟨rfl, rfl, ⟨k0, k1, k2, k3, k4⟩, hbw⟩ := hrel
    have HBW := Lib.hid hbw
    clear hbw
    go_wp2_with fail
    refine (HS.out _).mono ?_
    rintro e w5 ⟨rfl, hb⟩
    have HB5 := Lib.hid (below_then HBW.out hb)
    clear hb k0 k1 k2 k3 k4
    go_wp2
    try rw [Exit.noGoto_ret]
    go_ret
    exact ⟨rfl, HB5.out⟩

theorem Left_bad (h : ¬ Geom.ok c l k p s) (A : Option Addr) (n cp B : Nat) (zs : List Int) (x : Int) (w : World) (hn : n ≤ maxLen) (hz : Nums w B A n zs) (hB : B ≤ w.heap.size) :
    Calls Try.prog 16 #[.agg #[.int .i64 c, .int .i64 l, .int .i64 k, .int .i64 p, .int .i64 s], .slice A n cp, .int .i64 x] w fun e w' => e = .returned (.int .i64 0) ∧ Below w.heap.size w w' := by
  by_cases hx : x < 0
  · exact left_err0 x 1 A n cp B zs hx (fun w => Spot_bad h 0 w) (by omega) w hn hz hB
  · exact left_err x 1 A n cp B zs (by omega) (fun w => Spot_bad h x w) (by omega) w hn hz hB

theorem Left_ok (h : Geom.Sizes c l k p s U R L N) (A : Option Addr) (n cp B : Nat) (zs : List Int) (x : Int) (w : World) (hn : n ≤ maxLen) (hz : Nums w B A n zs) (hB : B ≤ w.heap.size) :
    Calls Try.prog 16 #[.agg #[.int .i64 c, .int .i64 l, .int .i64 k, .int .i64 p, .int .i64 s], .slice A n cp, .int .i64 x] w fun e w' => e = .returned (.int .i64 ((many zs U x (U * p).toNat : Nat) : Int)) ∧ Below w.heap.size w w' := by
  by_cases hx : x < 0
  · rw [← many_max zs U x, show max x 0 = 0 by omega]
    exact left_neg h A n cp B zs x w hn hz hB hx
  · obtain ⟨v, rfl⟩ : ∃ v : Nat, x = (v : Int) := ⟨x.toNat, by omega⟩
    exact left_pos h A n cp B zs v w hn hz hB
end
end Go.Proofs.Ytenmdgclmjfimaa.StripePkg
