/-
  What each function of package stripe does: for every input.
-/
import Derived.Test.YtenmdgclmjfimaaGeomNum
import Derived.Test.YtenmdgclmjfimaaGeomOf
import Derived.Test.YtenmdgclmjfimaaNums
import Derived.Test.YtenmdgclmjfimaaStripeMath
import Derived.WalkMore
import Derived.ScopeJumps
import Derived.Deep.RegionHeld3
namespace Go.Proofs.Ytenmdgclmjfimaa.StripePkg
open Go.RowKit Stripe
set_option maxRecDepth 4000

/-- Eight cells that tell of each unit whether it is dead. -/
def Eight (w : World) (b : Nat) (zs : List Int) : Prop := ∀ j : Nat, j < 8 → w.cell? ⟨b, j, none⟩ = some (.bool (dd zs (j : Int))) ∧ w.frozen? ⟨b, j, none⟩ = false

theorem eight_keep {w w' : World} {b : Nat} {zs : List Int} (h : Eight w b zs) (hb : Below w.heap.size w w') : Eight w' b zs := fun j hj =>
  ⟨(hb.cell (World.block_lt_of_cell? _ _ (h j hj).1)).trans (h j hj).1, (hb.frozen (World.block_lt_of_cell? _ _ (h j hj).1)).trans (h j hj).2⟩

theorem eight_more {w : World} {b : Nat} {zs : List Int} {k : Nat} {z : Int} (h : Eight w b (zs.take k)) (hz : zs[k]? = some z) (hn : z < 0 ∨ 8 ≤ z) : Eight w b (zs.take (k + 1)) := fun j hj => by
  refine ⟨?_, (h j hj).2⟩
  rw [(h j hj).1]
  obtain ⟨hl, hzq⟩ := List.getElem?_eq_some_iff.1 hz
  rw [List.take_succ_eq_append_getElem hl]
  unfold dd
  congr 2
  simp [hzq]
  omega

theorem eight_set {w : World} {b : Nat} {zs : List Int} {k x : Nat} (h : Eight w b (zs.take k)) (hz : zs[k]? = some (x : Int)) (hx : x < 8) : Eight (w.setCell ⟨b, x, none⟩ (.bool true)) b (zs.take (k + 1)) := fun j hj => by
  refine ⟨?_, (World.frozen?_setCell _ _ _ _).trans (h j hj).2⟩
  obtain ⟨hl, hzq⟩ := List.getElem?_eq_some_iff.1 hz
  rw [List.take_succ_eq_append_getElem hl]
  by_cases e : j = x
  · subst e
    rw [World.cell?_setCell_same _ _ _ (h j hj).1]
    simp [dd, hzq]
  · rw [(World.cell?_setCell_other w ⟨b, x, none⟩ ⟨b, j, none⟩ _ (fun h => e (by cases h; rfl))).trans (h j hj).1]
    unfold dd
    congr 2
    simp [hzq]
    omega

theorem eight_new (w : World) (t : TypeId) : Eight (w.alloc (.cells #[.bool false, .bool false, .bool false, .bool false, .bool false, .bool false, .bool false, .bool false] t)) w.heap.size [] := by
  intro j hj
  refine ⟨?_, World.frozen?_alloc_at _ _ _ _ rfl⟩
  match j, hj with
  | 0, _ | 1, _ | 2, _ | 3, _ | 4, _ | 5, _ | 6, _ | 7, _ => simp [dd]

abbrev eightV (zs : List Int) : Value := .agg #[.bool (dd zs 0), .bool (dd zs 1), .bool (dd zs 2), .bool (dd zs 3), .bool (dd zs 4), .bool (dd zs 5), .bool (dd zs 6), .bool (dd zs 7)]

theorem deadOnes_any (A : Option Addr) (n c B : Nat) (zs : List Int) (w : World) (hn : n ≤ maxLen) (hz : Nums w B A n zs) (hB : B ≤ w.heap.size) :
    Calls Try.prog 22 #[.slice A n c] w fun e w' => e = .returned (eightV zs) ∧ Below w.heap.size w w' := by
  have hnm : n ≤ 9223372036854775807 := hn
  have HZ := Lib.hid hz
  have hzl := hz.1
  have HZL := Lib.hid hzl
  clear hz hn hzl
  go_enter Try.func22, Try.ntmps22
  go_wp2
  go_loopw [8] (fun i wr => ∃ k : Nat, i = .int .i64 k ∧ k ≤ n ∧ Eight wr (w.heap.size + 1) (zs.take k) ∧ Eight wr w.heap.size [] ∧ Below w.heap.size w wr) (fun i _ => n - (intOf i).toNat)
  case atStart =>
    refine ⟨0, rfl, by omega, ?_, ?_, ((Below.refl _ _).alloc (Nat.le_refl _) _).alloc (by simp) _⟩
    · rw [show zs.take 0 = [] from rfl]
      have h := eight_new (w.alloc (.cells #[.bool false, .bool false, .bool false, .bool false, .bool false, .bool false, .bool false, .bool false] 45)) 45
      rwa [show (w.alloc (.cells #[.bool false, .bool false, .bool false, .bool false, .bool false, .bool false, .bool false, .bool false] 45)).heap.size = w.heap.size + 1 by simp] at h
    · exact eight_keep (eight_new w 45) ((Below.refl _ _).alloc (Nat.le_refl _) _)
  case round =>
    obtain ⟨k, rfl, hk, h8, hr8, hbw⟩ := hrel
    have H8 := Lib.hid h8
    have HR8 := Lib.hid hr8
    have HBW := Lib.hid hbw
    clear h8 hr8 hbw
    by_cases hlt : k < n
    · obtain ⟨b0, o0, z, rfl, hb0, hzk, hc, z0, z1⟩ := (nums_keep (nums_more HZ.out hB) HBW.out).at_ hlt
      have HZK := Lib.hid hzk
      clear hzk
      by_cases hin : 0 ≤ z ∧ z < 8
      · obtain ⟨y, rfl⟩ : ∃ y : Nat, z = (y : Int) := ⟨z.toNat, by omega⟩
        have hy : y < 8 := by omega
        have hcy := (H8.out y hy).1
        have hfy := (H8.out y hy).2
        have d1 : decide ((y : Int) < 8) = true := by simp; omega
        have hy2 : (y : Int) < 8 := by omega
        clear hin
        go_wp2
        go_roundw
        case measure => simp [intOf]; omega
        case rel =>
          refine ⟨k + 1, by go_num, by omega, eight_set H8.out HZK.out hy, fun j hj => ?_, HBW.out.setCell (by simp) _⟩
          exact ⟨(World.cell?_setCell_other wr ⟨w.heap.size + 1, y, none⟩ ⟨w.heap.size, j, none⟩ _ (fun h => by injection h with h; omega)).trans (HR8.out j hj).1, (World.frozen?_setCell _ _ _ _).trans (HR8.out j hj).2⟩
      · have hor : z < 0 ∨ 8 ≤ z := by omega
        have HOR := Lib.hid hor
        have hd : decide (0 ≤ z) = false ∨ (decide (0 ≤ z) = true ∧ decide (z < 8) = false) := by
          rcases hor with h | h
          · exact Or.inl (by simp; omega)
          · exact Or.inr ⟨by simp; omega, by simp; omega⟩
        clear hin hor
        rcases hd with hd | ⟨hd, hd2⟩
        · go_wp2
          go_roundw
          case measure => simp [intOf]; omega
          case rel => exact ⟨k + 1, by go_num, by omega, eight_more H8.out HZK.out HOR.out, HR8.out, HBW.out⟩
        · go_wp2
          go_roundw
          case measure => simp [intOf]; omega
          case rel => exact ⟨k + 1, by go_num, by omega, eight_more H8.out HZK.out HOR.out, HR8.out, HBW.out⟩
    · obtain rfl : k = n := by omega
      have h8 := H8.out
      rw [show zs.take k = zs from List.take_of_length_le (by have := HZL.out; omega)] at h8
      have hr8 := HR8.out
      have a0 := (h8 0 (by omega)).1
      have a1 := (h8 1 (by omega)).1
      have a2 := (h8 2 (by omega)).1
      have a3 := (h8 3 (by omega)).1
      have a4 := (h8 4 (by omega)).1
      have a5 := (h8 5 (by omega)).1
      have a6 := (h8 6 (by omega)).1
      have a7 := (h8 7 (by omega)).1
      obtain ⟨b0, f0⟩ := hr8 0 (by omega)
      obtain ⟨b1, f1⟩ := hr8 1 (by omega)
      obtain ⟨b2, f2⟩ := hr8 2 (by omega)
      obtain ⟨b3, f3⟩ := hr8 3 (by omega)
      obtain ⟨b4, f4⟩ := hr8 4 (by omega)
      obtain ⟨b5, f5⟩ := hr8 5 (by omega)
      obtain ⟨b6, f6⟩ := hr8 6 (by omega)
      obtain ⟨b7, f7⟩ := hr8 7 (by omega)
      clear h8 hr8 H8 HR8
      go_wp2
      have hB8 := ((((((((HBW.out.setCell (p := ⟨w.heap.size, 0, none⟩) (Nat.le_refl _) (.bool (dd zs 0))).setCell (p := ⟨w.heap.size, 1, none⟩) (Nat.le_refl _) (.bool (dd zs 1))).setCell (p := ⟨w.heap.size, 2, none⟩) (Nat.le_refl _) (.bool (dd zs 2))).setCell (p := ⟨w.heap.size, 3, none⟩) (Nat.le_refl _) (.bool (dd zs 3))).setCell (p := ⟨w.heap.size, 4, none⟩) (Nat.le_refl _) (.bool (dd zs 4))).setCell (p := ⟨w.heap.size, 5, none⟩) (Nat.le_refl _) (.bool (dd zs 5))).setCell (p := ⟨w.heap.size, 6, none⟩) (Nat.le_refl _) (.bool (dd zs 6))).setCell (p := ⟨w.heap.size, 7, none⟩) (Nat.le_refl _) (.bool (dd zs 7)))
      refine bodyPost_ret (v := eightV zs) ?_ rfl ⟨rfl, hB8⟩
      simp [results, Try.results22, go_sem, b0, b1, b2, b3, b4, b5, b6, b7]

theorem pages_ok {c l k p s U R L N : Int} (h : Geom.Sizes c l k p s U R L N) (w : World) :
    Calls Try.prog 23 #[.agg #[.int .i64 c, .int .i64 l, .int .i64 k, .int .i64 p, .int .i64 s]] w fun e w' => e = .returned (.int .i64 (U * p)) ∧ Below w.heap.size w w' := by
  have HB : Hid (Below w.heap.size w (w.alloc (.cells #[.int .i64 c, .int .i64 l, .int .i64 k, .int .i64 p, .int .i64 s] 23)).drew) := Lib.hid ((Below.refl w.heap.size w).alloc (Nat.le_refl _) (.cells #[.int .i64 c, .int .i64 l, .int .i64 k, .int .i64 p, .int .i64 s] 23)).drew
  obtain ⟨k0, k1, k2, k3, k4⟩ := geo_new w 23 c l k p s
  have HU := Lib.hid (fun w => Units_ok h w)
  have hup := Geom.mul_bd h.u0 h.u1 h.may.2.2.2.2.2.2.1 h.may.2.2.2.2.2.2.2.1
  have hw1 : IntKind.i64.wrap (U * p) = U * p := kwrap_is (by omega) (by omega)
  obtain ⟨M, hM⟩ : ∃ M, M = U * p := ⟨_, rfl⟩
  rw [← hM] at hup ⊢
  have hw2 : IntKind.i64.wrap (U * p) = M := hw1.trans hM.symm
  clear h hM hw1
  go_enter Try.func23, Try.ntmps23
  go_wp2_with fail
  go_region_held3 (fun w' => w'.cell? ⟨w.heap.size, 0, none⟩ = some (.int .i64 c) ∧ w'.cell? ⟨w.heap.size, 1, none⟩ = some (.int .i64 l) ∧ w'.cell? ⟨w.heap.size, 2, none⟩ = some (.int .i64 k) ∧ w'.cell? ⟨w.heap.size, 3, none⟩ = some (.int .i64 p) ∧ w'.cell? ⟨w.heap.size, 4, none⟩ = some (.int .i64 s))
    (first | exact ⟨k0, k1, k2, k3, k4⟩ | exact geo_keep (by assumption) hb | go_keep)
    (first
      | (go_at_call 19; refine (HU.out _).mono ?_; rintro e w3 ⟨rfl, hb⟩; replace HB := Lib.hid (below_then HB.out hb)))
  rename_i hH
  clear hH
  go_wp2
  go_ret
  exact ⟨rfl, HB.out⟩

section
variable {c l k p s U R L N x er : Int}

theorem Spot_bad (h : ¬ Geom.ok c l k p s) (x : Int) (w : World) :
    Calls Try.prog 12 #[.agg #[.int .i64 c, .int .i64 l, .int .i64 k, .int .i64 p, .int .i64 s], .int .i64 x] w fun e w' => e = .returned (.tuple #[.int .i64 0, .int .i64 0, .int .i64 1]) ∧ Below w.heap.size w w' := by
  have HB := Lib.hid ((Below.refl w.heap.size w).alloc (Nat.le_refl _) (.cells #[.int .i64 c, .int .i64 l, .int .i64 k, .int .i64 p, .int .i64 s] 23))
  have HR := Lib.hid (fun w => right_bad h w)
  clear h
  go_enter Try.func12, Try.ntmps12
  go_wp2_with fail
  refine (HR.out _).mono ?_
  rintro e w2 ⟨rfl, hb⟩
  replace HB := Lib.hid (below_then HB.out hb)
  clear hb
  go_wp2
  go_ret3
  exact ⟨rfl, HB.out⟩

theorem Spot_out (h : Geom.Sizes c l k p s U R L N) (x : Int) (hx : x < 0 ∨ U * p ≤ x) (w : World) :
    Calls Try.prog 12 #[.agg #[.int .i64 c, .int .i64 l, .int .i64 k, .int .i64 p, .int .i64 s], .int .i64 x] w fun e w' => e = .returned (.tuple #[.int .i64 0, .int .i64 0, .int .i64 2]) ∧ Below w.heap.size w w' := by
  have HB := Lib.hid ((Below.refl w.heap.size w).alloc (Nat.le_refl _) (.cells #[.int .i64 c, .int .i64 l, .int .i64 k, .int .i64 p, .int .i64 s] 23))
  have HG := Lib.hid (geo_new w 23 c l k p s)
  have HR := Lib.hid (fun w => right_ok h.may w)
  have HP := Lib.hid (fun w => pages_ok h w)
  obtain ⟨M, hM⟩ : ∃ M, M = U * p := ⟨_, rfl⟩
  rw [← hM] at HP hx
  clear h hM
  go_enter Try.func12, Try.ntmps12
  go_wp2_with fail
  refine (HR.out _).mono ?_
  rintro e w2 ⟨rfl, hb⟩
  replace HB := Lib.hid (below_then HB.out hb)
  obtain ⟨k0, k1, k2, k3, k4⟩ := geo_keep HG.out hb
  clear hb
  by_cases hneg : x < 0
  · have d1 : decide (x < 0) = true := by simp; omega
    go_wp2
    go_ret3
    exact ⟨rfl, HB.out⟩
  · have d1 : decide (x < 0) = false := by simp; omega
    have d2 : decide (M ≤ x) = true := by simp; omega
    clear hx hneg
    go_wp2_with fail
    refine (HP.out _).mono ?_
    rintro e w3 ⟨rfl, hb⟩
    replace HB := Lib.hid (below_then HB.out hb)
    clear hb
    go_wp2
    go_ret3
    exact ⟨rfl, HB.out⟩

theorem Spot_in (h : Geom.Sizes c l k p s U R L N) (x : Int) (h0 : 0 ≤ x) (h1 : x < U * p) (w : World) :
    Calls Try.prog 12 #[.agg #[.int .i64 c, .int .i64 l, .int .i64 k, .int .i64 p, .int .i64 s], .int .i64 x] w fun e w' => e = .returned (.tuple #[.int .i64 (x % U), .int .i64 (x / U), .int .i64 0]) ∧ Below w.heap.size w w' := by
  have HB := Lib.hid ((Below.refl w.heap.size w).alloc (Nat.le_refl _) (.cells #[.int .i64 c, .int .i64 l, .int .i64 k, .int .i64 p, .int .i64 s] 23))
  have HG := Lib.hid (geo_new w 23 c l k p s)
  have HR := Lib.hid (fun w => right_ok h.may w)
  have HU := Lib.hid (fun w => Units_ok h w)
  have HP := Lib.hid (fun w => pages_ok h w)
  have hU0 := h.u0
  have hU1 := h.u1
  have hup := Geom.mul_bd h.u0 h.u1 h.may.2.2.2.2.2.2.1 h.may.2.2.2.2.2.2.2.1
  obtain ⟨M, hM⟩ : ∃ M, M = U * p := ⟨_, rfl⟩
  rw [← hM] at HP h1 hup
  have d1 : decide (x < 0) = false := by simp; omega
  have d2 : decide (M ≤ x) = false := by simp; omega
  have hsp := Stripe.split U x hU0 h0
  have hdb : x / U ≤ x := by
    have := Int.ediv_le_self U h0
    exact this
  have e1 : x.tmod U = x % U := Int.tmod_eq_emod_of_nonneg h0
  have e2 : x.tdiv U = x / U := Int.tdiv_eq_ediv_of_nonneg h0
  have e3 : IntKind.i64.wrap (x / U) = x / U := kwrap_is (by omega) (by omega)
  have e4 : IntKind.i64.wrap (x % U) = x % U := kwrap_is (by omega) (by omega)
  have hne : (U == 0) = false := by simp; omega
  have hne2 : ¬ U = 0 := by omega
  clear h hM hsp hdb
  go_enter Try.func12, Try.ntmps12
  go_wp2_with fail
  refine (HR.out _).mono ?_
  rintro e w2 ⟨rfl, hb⟩
  replace HB := Lib.hid (below_then HB.out hb)
  replace HG := Lib.hid (geo_keep HG.out hb)
  obtain ⟨k0, k1, k2, k3, k4⟩ := HG.out
  clear hb
  go_wp2_with fail
  refine (HP.out _).mono ?_
  rintro e w3 ⟨rfl, hb⟩
  replace HB := Lib.hid (below_then HB.out hb).drew
  replace HG := Lib.hid (geo_keep HG.out hb)
  clear hb k0 k1 k2 k3 k4
  obtain ⟨k0, k1, k2, k3, k4⟩ := HG.out
  go_wp2_with fail
  go_region_held3 (fun w' => w'.cell? ⟨w.heap.size, 0, none⟩ = some (.int .i64 c) ∧ w'.cell? ⟨w.heap.size, 1, none⟩ = some (.int .i64 l) ∧ w'.cell? ⟨w.heap.size, 2, none⟩ = some (.int .i64 k) ∧ w'.cell? ⟨w.heap.size, 3, none⟩ = some (.int .i64 p) ∧ w'.cell? ⟨w.heap.size, 4, none⟩ = some (.int .i64 s))
    (first | exact ⟨k0, k1, k2, k3, k4⟩ | exact geo_keep (by assumption) hb | go_keep)
    (first
      | (go_at_call 19; refine (HU.out _).mono ?_; rintro e w3 ⟨rfl, hb⟩; replace HB := Lib.hid (below_then HB.out hb)))
  all_goals
    rename_i hH
    clear hH
    go_wp2
    go_ret3
    exact ⟨rfl, HB.out⟩

theorem first_adr (h : Geom.Sizes c l k p s U R L N) {line x u g : Int} (hx : x = g * U + u) : line * L + x * s = line * L + g * R + u * s + 0 := by
  rw [h.r, hx, Int.add_mul, Int.mul_assoc]
  omega

theorem first_of (hS : ∀ w, Calls Try.prog 12 #[.agg #[.int .i64 c, .int .i64 l, .int .i64 k, .int .i64 p, .int .i64 s], .int .i64 x] w fun e w' => e = .returned (.tuple #[.int .i64 0, .int .i64 0, .int .i64 er]) ∧ Below w.heap.size w w') (he : ¬ er = 0) (line : Int) (w : World) :
    Calls Try.prog 14 #[.agg #[.int .i64 c, .int .i64 l, .int .i64 k, .int .i64 p, .int .i64 s], .int .i64 line, .int .i64 x] w fun e w' => e = .returned (.tuple #[.int .i64 0, .int .i64 er]) ∧ Below w.heap.size w w' := by
  have HB := Lib.hid ((Below.refl w.heap.size w).alloc (Nat.le_refl _) (.cells #[.int .i64 c, .int .i64 l, .int .i64 k, .int .i64 p, .int .i64 s] 23))
  have HS := Lib.hid hS
  clear hS
  go_enter Try.func14, Try.ntmps14
  go_wp2_with fail
  refine (HS.out _).mono ?_
  rintro e w2 ⟨rfl, hb⟩
  replace HB := Lib.hid (below_then HB.out hb)
  clear hb
  go_wp2
  go_ret2
  exact ⟨rfl, HB.out⟩

theorem First_bad (h : ¬ Geom.ok c l k p s) (line x : Int) (w : World) :
    Calls Try.prog 14 #[.agg #[.int .i64 c, .int .i64 l, .int .i64 k, .int .i64 p, .int .i64 s], .int .i64 line, .int .i64 x] w fun e w' => e = .returned (.tuple #[.int .i64 0, .int .i64 1]) ∧ Below w.heap.size w w' :=
  first_of (fun w => Spot_bad h x w) (by omega) line w

theorem First_out (h : Geom.Sizes c l k p s U R L N) (line x : Int) (hx : x < 0 ∨ U * p ≤ x) (w : World) :
    Calls Try.prog 14 #[.agg #[.int .i64 c, .int .i64 l, .int .i64 k, .int .i64 p, .int .i64 s], .int .i64 line, .int .i64 x] w fun e w' => e = .returned (.tuple #[.int .i64 0, .int .i64 2]) ∧ Below w.heap.size w w' :=
  first_of (fun w => Spot_out h x hx w) (by omega) line w

theorem first_num (h : Geom.Sizes c l k p s U R L N) (line x y er : Int) (h0 : 0 ≤ x) (h1 : x < U * p) (hN : ∀ w, Calls Try.prog 26 #[.agg #[.int .i64 c, .int .i64 l, .int .i64 k, .int .i64 p, .int .i64 s], .agg #[.int .i64 (x % U), .int .i64 line, .int .i64 (x / U), .int .i64 0]] w fun e w' => e = .returned (.tuple #[.int .i64 y, .int .i64 er]) ∧ Below w.heap.size w w') (w : World) :
    Calls Try.prog 14 #[.agg #[.int .i64 c, .int .i64 l, .int .i64 k, .int .i64 p, .int .i64 s], .int .i64 line, .int .i64 x] w fun e w' => e = .returned (.tuple #[.int .i64 y, .int .i64 er]) ∧ Below w.heap.size w w' := by
  have HB := Lib.hid ((Below.refl w.heap.size w).alloc (Nat.le_refl _) (.cells #[.int .i64 c, .int .i64 l, .int .i64 k, .int .i64 p, .int .i64 s] 23))
  have HG := Lib.hid (geo_new w 23 c l k p s)
  have HS := Lib.hid (fun w => Spot_in h x h0 h1 w)
  have HN := Lib.hid hN
  generalize x % U = u at HS HN
  generalize x / U = g at HS HN
  clear hN h h0 h1
  go_enter Try.func14, Try.ntmps14
  go_wp2_with fail
  refine (HS.out _).mono ?_
  rintro e w2 ⟨rfl, hb⟩
  replace HB := Lib.hid (below_then HB.out hb)
  obtain ⟨k0, k1, k2, k3, k4⟩ := geo_keep HG.out hb
  clear hb
  go_wp2_with fail
  refine (HN.out _).mono ?_
  rintro e w3 ⟨rfl, hb⟩
  replace HB := Lib.hid (below_then HB.out hb)
  clear hb
  go_wp2
  go_ret2
  exact ⟨rfl, HB.out⟩

theorem First_line (h : Geom.Sizes c l k p s U R L N) (line x : Int) (hl : line < 0 ∨ k ≤ line) (w : World) :
    Calls Try.prog 14 #[.agg #[.int .i64 c, .int .i64 l, .int .i64 k, .int .i64 p, .int .i64 s], .int .i64 line, .int .i64 x] w fun e w' => e = .returned (.tuple #[.int .i64 0, .int .i64 2]) ∧ Below w.heap.size w w' := by
  by_cases hx : x < 0 ∨ U * p ≤ x
  · exact First_out h line x hx w
  · exact first_num h line x 0 2 (by omega) (by omega) (fun w => num_out h _ _ _ _ (fun hp => by have h1 := hp.2.2.1; have h2 := hp.2.2.2.1; omega) w) w

theorem First_in (h : Geom.Sizes c l k p s U R L N) (line x y : Int) (l0 : 0 ≤ line) (l1 : line < k) (h0 : 0 ≤ x) (h1 : x < U * p) (hy : y = line * L + x * s) (w : World) :
    Calls Try.prog 14 #[.agg #[.int .i64 c, .int .i64 l, .int .i64 k, .int .i64 p, .int .i64 s], .int .i64 line, .int .i64 x] w fun e w' => e = .returned (.tuple #[.int .i64 y, .int .i64 0]) ∧ Below w.heap.size w w' := by
  have hsp := Stripe.split U x h.u0 h0
  have hrw := Stripe.row_bd h.u0 h0 h1
  refine first_num h line x y 0 h0 h1 (fun w => num_in h _ _ _ _ y ⟨hsp.2.1, hsp.2.2.1, l0, l1, hsp.2.2.2, hrw, by omega, h.may.2.2.2.2.2.2.2.2.1⟩ ?_ w) w
  rw [hy]
  exact first_adr h hsp.1
end
end Go.Proofs.Ytenmdgclmjfimaa.StripePkg
