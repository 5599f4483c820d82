/-
  StripeLess holds: the more units are dead, the less is left; of a page that is left one is less, for every geometry, every list and every two numbers. No condition.
-/
import Derived.Test.YtenmdgclmjfimaaStripeKit
import Derived.Test.YtenmdgclmjfimaaIntsMore
import Derived.Test.YtenmdgclmjfimaaArrays
import Derived.OpenShut
import Derived.Deep.DeepCutAuto
namespace Go.Proofs.Ytenmdgclmjfimaa.stripeLess
open Go.RowKit Go.ChangeShapes Go.WideShapes Stripe StripePkg
set_option maxRecDepth 4000

theorem many_more (zs : List Int) (y U a : Int) (m : Nat) : many (zs ++ [y]) U a m ≤ many zs U a m := by
  refine sel_le (fun x h => ?_) m
  obtain ⟨h1, h2⟩ := good_is.1 h
  refine good_yes ?_ h2
  unfold live at h1 ⊢
  simp at h1 ⊢
  exact h1.1

theorem many_none {zs : List Int} {U a M : Int} {m : Nat} (hm : (m : Int) = M) (h0 : 0 ≤ a) (h : Nxt (live zs U) (max a 0) M (-1)) : many zs U a m = 0 := by
  have hn : ∀ i, a ≤ i → i < M → live zs U i = false := by
    rcases h with ⟨_, h1⟩ | ⟨h1, _⟩
    · exact fun i g1 g2 => h1 i (by omega) g2
    · omega
  unfold many
  rw [sel_none (fun x _ h2 => ?_)]
  · rfl
  · by_cases g : a ≤ x
    · exact good_dead (hn x g (by omega))
    · exact good_less (by omega)

theorem many_one {zs : List Int} {U a M r : Int} {m : Nat} (hm : (m : Int) = M) (h0 : 0 ≤ a) (h : Nxt (live zs U) (max a 0) M r) (hr : 0 ≤ r) : a ≤ r ∧ r < M ∧ many zs U a m = many zs U (r + 1) m + 1 := by
  rcases h with ⟨e, _⟩ | ⟨h1, h2, h3, h4⟩
  · omega
  refine ⟨by omega, h2, ?_⟩
  have key : ∀ q : Nat, many zs U a q = many zs U (r + 1) q + (if r < q then 1 else 0) := by
    intro q
    induction q with
    | zero => rw [if_neg (by omega)]; rfl
    | succ q ih =>
      by_cases c1 : r < q
      · rw [if_pos c1] at ih
        rw [if_pos (by omega)]
        cases hl : live zs U q with
        | true => rw [many_yes hl (by omega), many_yes hl (by omega), ih]
        | false => rw [many_no hl, many_no hl, ih]
      · rw [if_neg c1] at ih
        by_cases c2 : r = q
        · rw [if_pos (by omega)]
          have hl : live zs U q = true := by rw [← c2]; exact h3
          rw [many_yes hl (by omega), ih]
          unfold many
          rw [sel_no (good_less (by omega))]
        · rw [if_neg (by omega)]
          have e1 : good zs U a q = false := by
            by_cases g : a ≤ (q : Int)
            · exact good_dead (h4 q (by omega) (by omega))
            · exact good_less (by omega)
          unfold many at ih ⊢
          rw [sel_no e1, sel_no (good_less (by omega)), ih]
  rw [key m, if_pos (by omega)]

theorem bd_snoc {w : World} {B : Nat} {A : Option Addr} {n : Nat} {zs : List Int} {y : Int} (h : Nums w B A n zs) (hy : -9223372036854775808 ≤ y ∧ y ≤ 9223372036854775807) : ∀ z ∈ zs ++ [y], -9223372036854775808 ≤ z ∧ z ≤ 9223372036854775807 := fun z hz => by
  rcases List.mem_append.1 hz with hz | hz
  · obtain ⟨i, hi, rfl⟩ := List.mem_iff_getElem.1 hz
    have := h.2 i hi
    exact ⟨this.1, this.2.1⟩
  · rw [List.mem_singleton.1 hz]
    exact hy

abbrev Kept (w' : World) (b : Nat) (gc gl gk gp gs x y : Int) : Prop := Geo w' b gc gl gk gp gs ∧ w'.cell? ⟨b + 1, 0, none⟩ = some (.int .i64 x) ∧ w'.cell? ⟨b + 1, 1, none⟩ = some (.int .i64 y)

theorem kept_on {w w' : World} {b : Nat} {gc gl gk gp gs x y : Int} (h : Kept w b gc gl gk gp gs x y) (hb : Below w.heap.size w w') : Kept w' b gc gl gk gp gs x y :=
  ⟨geo_keep h.1 hb, cell_stays hb h.2.1, cell_stays hb h.2.2⟩

set_option maxHeartbeats 1600000 in
theorem walk (gc gl gk gp gs : Int) (A : Option Addr) (n c : Nat) (zs : List Int) (x y : Int) (w : World) (hnc : n ≤ c) (hcm : c ≤ maxLen) (hr : Nums w w.heap.size A n zs) (_hx0 : -9223372036854775808 ≤ x) (_hx1 : x ≤ 9223372036854775807) (hy0 : -9223372036854775808 ≤ y) (hy1 : y ≤ 9223372036854775807) :
    Calls Try.prog 7 #[.agg #[.int .i64 gc, .int .i64 gl, .int .i64 gk, .int .i64 gp, .int .i64 gs], .slice A n c, .agg #[.int .i64 x, .int .i64 y]] w fun e w' => e = .returned (.bool true) ∧ Below w.heap.size w w' := by
  have hb1 := (Below.refl w.heap.size w).alloc (Nat.le_refl _) (.cells #[.int .i64 gc, .int .i64 gl, .int .i64 gk, .int .i64 gp, .int .i64 gs] 23)
  have hs1 : (w.alloc (.cells #[.int .i64 gc, .int .i64 gl, .int .i64 gk, .int .i64 gp, .int .i64 gs] 23)).heap.size = w.heap.size + 1 := by simp
  have HB := Lib.hid (hb1.alloc hb1.size (.cells #[.int .i64 x, .int .i64 y] 38))
  have HK : Hid (Kept ((w.alloc (.cells #[.int .i64 gc, .int .i64 gl, .int .i64 gk, .int .i64 gp, .int .i64 gs] 23)).alloc (.cells #[.int .i64 x, .int .i64 y] 38)) w.heap.size gc gl gk gp gs x y) :=
    Lib.hid ⟨geo_keep (geo_new w 23 gc gl gk gp gs) ((Below.refl _ _).alloc (Nat.le_refl _) _), by rw [← hs1]; simp [World.cell?_alloc_at], by rw [← hs1]; simp [World.cell?_alloc_at]⟩
  have HZ := Lib.hid hr
  have hn : n ≤ maxLen := Nat.le_trans hnc hcm
  have HN := Lib.hid hn
  have hnm : n ≤ 9223372036854775807 := hn
  have HY := Lib.hid (And.intro hy0 hy1)
  clear hr hnc hcm hn hb1 hs1
  by_cases hout : 100 < n ∨ x < 0 ∨ 100000 < x
  · have hd : decide ((100 : Int) < (n : Int)) = true ∨ (decide ((100 : Int) < (n : Int)) = false ∧ decide (x < 0) = true) ∨ (decide ((100 : Int) < (n : Int)) = false ∧ decide (x < 0) = false ∧ decide (100000 < x) = true) := by
      by_cases h1 : 100 < n
      · exact Or.inl (by simp; omega)
      · by_cases h2 : x < 0
        · exact Or.inr (Or.inl ⟨by simp; omega, by simp; omega⟩)
        · exact Or.inr (Or.inr ⟨by simp; omega, by simp; omega, by simp; omega⟩)
    clear hout
    rcases hd with hd | ⟨hd, hd2⟩ | ⟨hd, hd2, hd3⟩
    all_goals
      go_enter Try.func7, Try.ntmps7
      go_wp2_with fail
      refine (awake_any _).mono ?_
      rintro e w1 ⟨rfl, hb⟩
      replace HB := Lib.hid (below_then HB.out hb)
      replace HK := Lib.hid (kept_on HK.out hb)
      clear hb
      obtain ⟨⟨k0, k1, k2, k3, k4⟩, x0, x1⟩ := HK.out
      clear k0 k1 k2 k3 k4
      go_wp2
      go_ret
      exact ⟨rfl, HB.out⟩

  have hd : decide ((100 : Int) < (n : Int)) = false := by simp; omega
  have hd2 : decide (x < 0) = false := by simp; omega
  have hd3 : decide (100000 < x) = false := by simp; omega
  have hxb : 0 ≤ x ∧ x ≤ 100000 := by omega
  have hn100 : n ≤ 100 := by omega
  clear hout
  obtain ⟨N, M2, r, hL1, hL2, hNx, hML, hcase⟩ : ∃ (N M2 : Nat) (r : Int), (∀ wx, Below w.heap.size w wx → Calls Try.prog 16 #[.agg #[.int .i64 gc, .int .i64 gl, .int .i64 gk, .int .i64 gp, .int .i64 gs], .slice A n c, .int .i64 x] wx fun e w' => e = .returned (.int .i64 (N : Int)) ∧ Below wx.heap.size wx w') ∧
      (∀ wx B2 A2 n2 c2, n2 ≤ maxLen → Nums wx B2 A2 n2 (zs ++ [y]) → B2 ≤ wx.heap.size → Calls Try.prog 16 #[.agg #[.int .i64 gc, .int .i64 gl, .int .i64 gk, .int .i64 gp, .int .i64 gs], .slice A2 n2 c2, .int .i64 x] wx fun e w' => e = .returned (.int .i64 (M2 : Int)) ∧ Below wx.heap.size wx w') ∧
      (∀ wx, Below w.heap.size w wx → Calls Try.prog 10 #[.agg #[.int .i64 gc, .int .i64 gl, .int .i64 gk, .int .i64 gp, .int .i64 gs], .slice A n c, .int .i64 x] wx fun e w' => e = .returned (.int .i64 r) ∧ Below wx.heap.size wx w') ∧ (M2 ≤ N ∧ N ≤ 1000) ∧
      ((r = -1 ∧ N = 0) ∨ (x ≤ r ∧ r ≤ 1000 ∧ 1 ≤ N ∧ ∀ wx, Below w.heap.size w wx → Calls Try.prog 16 #[.agg #[.int .i64 gc, .int .i64 gl, .int .i64 gk, .int .i64 gp, .int .i64 gs], .slice A n c, .int .i64 (r + 1)] wx fun e w' => e = .returned (.int .i64 ((N : Int) - 1)) ∧ Below wx.heap.size wx w')) := by
    by_cases hok : Geom.ok gc gl gk gp gs
    rotate_left
    · exact ⟨0, 0, -1, fun wx hb => Left_bad hok A n c w.heap.size zs x wx HN.out (nums_keep HZ.out hb) hb.size, fun wx B2 A2 n2 c2 h1 h2 h3 => Left_bad hok A2 n2 c2 B2 _ x wx h1 h2 h3, fun wx hb => Next_bad hok A n c x wx, by omega, Or.inl ⟨rfl, rfl⟩⟩
    have h := Geom.sizes hok
    have hup := Geom.mul_bd h.u0 h.u1 h.may.2.2.2.2.2.2.1 h.may.2.2.2.2.2.2.2.1
    obtain ⟨r, hr⟩ := nxt_is (live zs (gc * gl)) (max x 0) (gc * gl * gp)
    have hm : (((gc * gl * gp).toNat : Nat) : Int) = gc * gl * gp := by omega
    refine ⟨_, _, r, fun wx hb => Left_ok h A n c w.heap.size zs x wx HN.out (nums_keep HZ.out hb) hb.size, fun wx B2 A2 n2 c2 h1 h2 h3 => Left_ok h A2 n2 c2 B2 _ x wx h1 h2 h3, fun wx hb => (Next_ok h A n c w.heap.size zs x wx HN.out (nums_keep HZ.out hb) hb.size).mono fun e w' ⟨r', e1, e2, e3⟩ => ⟨by rw [e1, e2.one hr], e3⟩, ⟨many_more _ _ _ _ _, by have := many_le zs (gc * gl) x (gc * gl * gp).toNat; omega⟩, ?_⟩
    by_cases hr0 : 0 ≤ r
    · obtain ⟨h1, h2, h3⟩ := many_one hm hxb.1 hr hr0
      refine Or.inr ⟨h1, by omega, by omega, fun wx hb => (Left_ok h A n c w.heap.size zs (r + 1) wx HN.out (nums_keep HZ.out hb) hb.size).mono fun e w' ⟨e1, e2⟩ => ⟨by rw [e1]; exact ret_int (by omega), e2⟩⟩
    · have hr1 : r = -1 := by rcases hr with ⟨e, _⟩ | ⟨h1, _⟩ <;> omega
      rw [hr1] at hr
      exact Or.inl ⟨hr1, many_none hm hxb.1 hr⟩
  have HL1 := Lib.hid hL1
  have HL2 := Lib.hid hL2
  have HNX := Lib.hid hNx
  obtain ⟨hM2N, hN1⟩ := hML
  have HC := Lib.hid hcase
  clear hL1 hL2 hNx hcase
  go_enter Try.func7, Try.ntmps7
  go_wp2_with fail
  refine (awake_any _).mono ?_
  rintro e w1 ⟨rfl, hb⟩
  replace HB := Lib.hid (below_then HB.out hb)
  replace HK := Lib.hid (kept_on HK.out hb)
  clear hb
  obtain ⟨⟨k0, k1, k2, k3, k4⟩, x0, x1⟩ := HK.out
  go_wp2_with fail
  refine (HL1.out _ HB.out).mono ?_
  rintro e w2 ⟨rfl, hb⟩
  replace HB := Lib.hid (below_then HB.out hb)
  replace HK := Lib.hid (kept_on HK.out hb)
  clear hb k0 k1 k2 k3 k4 x0 x1
  obtain ⟨⟨k0, k1, k2, k3, k4⟩, x0, x1⟩ := HK.out
  have HZ2 := Lib.hid (nums_more (nums_keep HZ.out HB.out) HB.out.size)
  have hzl : zs.length = n := HZ.out.1
  have HW := Lib.hid HK.out
  have HWB := Lib.hid HB.out
  have HYB := HY.out
  go_upto_region 5 with fail
  go_cut [9] (fun s wx => s = .int .i64 (M2 : Int) ∧ Below w2.heap.size w2 wx)
  case first =>
    go_region_held3 (fun w' => (w'.cell? ⟨w.heap.size, 0, none⟩ = some (.int .i64 gc) ∧ w'.cell? ⟨w.heap.size, 1, none⟩ = some (.int .i64 gl) ∧ w'.cell? ⟨w.heap.size, 2, none⟩ = some (.int .i64 gk) ∧ w'.cell? ⟨w.heap.size, 3, none⟩ = some (.int .i64 gp) ∧ w'.cell? ⟨w.heap.size, 4, none⟩ = some (.int .i64 gs)) ∧ w'.cell? ⟨w.heap.size + 1, 0, none⟩ = some (.int .i64 x) ∧ w'.cell? ⟨w.heap.size + 1, 1, none⟩ = some (.int .i64 y))
      (first
        | exact HW.out
        | exact kept_on HW.out (below_then hB3 hb)
        | exact kept_on HW.out hB3
        | exact kept_on HW.out hB2
        | exact kept_on HW.out (hB2.alloc hz2 _)
        | exact kept_on HW.out ((Below.refl _ _).alloc (Nat.le_refl _) _)
        | exact kept_on HW.out (((Below.refl _ _).alloc (Nat.le_refl _) _).alloc (by simp) _)
        | go_keep)
      (first
        | (refine step_append_nums _ (o := ⟨some 34, _, _, _, _, _⟩) (by rfl) _ _ _ (by rfl) w2.heap.size 3 Try.underlying24 StripeRef.infoI  (.slice (some ⟨w2.heap.size, 0, none⟩) 0 0) [] (by rfl) (by exact ownI_new0 w2 _) w2.heap.size A n c zs (by rfl) (by exact nums_keep HZ2.out (((Below.refl _ _).alloc (Nat.le_refl _) _).drew)) (by simp; omega) (by simp) ?_; intro v3 w3 ho2 hg2; have hB2 : Below w2.heap.size w2 w3 := (((Below.refl _ w2).alloc (Nat.le_refl _) _).drew).grown hg2 (by simp) (fun k hk => by simp [Value.ownBlock] at hk; omega); have hz2 := hB2.size; clear hg2)
        | (refine step_append_nums _ (o := ⟨some 34, _, _, _, _, _⟩) (by rfl) _ _ _ (by rfl) w2.heap.size 3 Try.underlying24 StripeRef.infoI  (.slice (some ⟨w2.heap.size, 0, none⟩) 0 0) [] (by rfl) (by exact (ownI_new0 w2 _).alloc _) w2.heap.size A n c zs (by rfl) (by exact nums_keep HZ2.out ((((Below.refl _ _).alloc (Nat.le_refl _) _).alloc (by simp) _).drew)) (by simp; omega) (by simp; omega) ?_; intro v3 w3 ho2 hg2; have hB2 : Below w2.heap.size w2 w3 := ((((Below.refl _ w2).alloc (Nat.le_refl _) _).alloc (by simp) _).drew).grown hg2 (by simp; omega) (fun k hk => by simp [Value.ownBlock] at hk; omega); have hz2 := hB2.size; have hq := two_kept hg2 (by simp [Value.ownBlock]); clear hg2)
        | (refine step_append_nums _ (o := ⟨some 34, _, _, _, _, _⟩) (by rfl) _ _ _ (by rfl) w2.heap.size 3 Try.underlying24 StripeRef.infoI  (.slice (some ⟨w2.heap.size + 1, 0, none⟩) 0 0) [] (by rfl) (by exact ownI_later w2 _) w2.heap.size A n c zs (by rfl) (by exact nums_keep HZ2.out ((((Below.refl _ _).alloc (Nat.le_refl _) _).alloc (by simp) _).drew)) (by simp; omega) (by simp; omega) ?_; intro v3 w3 ho2 hg2; have hB2 : Below w2.heap.size w2 w3 := ((((Below.refl _ w2).alloc (Nat.le_refl _) _).alloc (by simp) _).drew).grown hg2 (by simp; omega) (fun k hk => by simp [Value.ownBlock] at hk; omega); have hz2 := hB2.size; have hq := two_kept' hg2 (by simp [Value.ownBlock]); clear hg2)
        | (refine step_append_nums _ (o := ⟨some 38, _, _, _, _, _⟩) (by rfl) _ _ _ (by rfl) w2.heap.size 3 Try.underlying24 StripeRef.infoI  v3 zs (by rfl) (by exact ho2.alloc _) (w3.heap.size + 1) (some ⟨w3.heap.size, 0, none⟩) 1 1 [y] (by rfl) (by exact nums_one w3 y _ HYB.1 HYB.2) (by rw [hzl]; omega) (by simp; omega) ?_; intro v4 w4 ho3 hg3; have hB3 : Below w2.heap.size w2 w4 := (hB2.alloc hz2 _).grown hg3 (by simp; omega) ho2.block; have hz3 := hB3.size; clear hg3)
        | (refine step_append_nums _ (o := ⟨some 38, _, _, _, _, _⟩) (by rfl) _ _ _ (by rfl) w2.heap.size 3 Try.underlying24 StripeRef.infoI  v3 zs (by rfl) (by exact ho2) _ _ 1 1 [y] (by rfl) (by exact nums_block y HYB.1 HYB.2 hq rfl) (by rw [hzl]; omega) hz2 ?_; intro v4 w4 ho3 hg3; have hB3 : Below w2.heap.size w2 w4 := hB2.grown hg3 hz2 ho2.block; have hz3 := hB3.size; clear hg3)
        | (obtain ⟨A5, c5, rfl, h51, h52, h53⟩ := ho3.reads (bd_snoc HZ.out HYB); go_at_call 16; refine (HL2.out _ _ _ _ _ (Nat.le_trans h51 h52) h53 (Nat.le_refl _)).mono ?_; rintro e w5 ⟨rfl, hb⟩))
    all_goals (go_wp2_with fail; go_meet; exact ⟨rfl, below_then hB3 hb⟩)
  case rest =>
    obtain ⟨rfl, hbw⟩ := hcut
    rename World => wd
    replace HB := Lib.hid (below_then HB.out hbw)
    replace HK := Lib.hid (kept_on HK.out hbw)
    clear hbw k0 k1 k2 k3 k4 x0 x1 HW HWB HZ2
    obtain ⟨⟨k0, k1, k2, k3, k4⟩, x0, x1⟩ := HK.out
    have e1 : decide ((N : Int) < (M2 : Int)) = false := by simp; omega
    have e2 : decide ((N : Int) < 0) = false := by simp
    have e3 : decide ((M2 : Int) < 0) = false := by simp
    go_wp2_with fail
    refine (HNX.out _ HB.out).mono ?_
    rintro e w6 ⟨rfl, hb⟩
    replace HB := Lib.hid (below_then HB.out hb)
    replace HK := Lib.hid (kept_on HK.out hb)
    clear hb k0 k1 k2 k3 k4 x0 x1
    obtain ⟨⟨k0, k1, k2, k3, k4⟩, x0, x1⟩ := HK.out
    rcases HC.out with ⟨hr, hN⟩ | ⟨h1, h2, h3, h4⟩
    · subst hr
      subst hN
      go_wp2
      go_ret
      exact ⟨rfl, HB.out⟩
    · have e4 : decide (r < 0) = false := by simp; omega
      have e5 : decide (x ≤ r) = true := by simpa using h1
      have e6 : wrap64 (r + 1) = r + 1 := wrap_is (by omega) (by omega)
      have e7 : wrap64 ((N : Int) - 1) = (N : Int) - 1 := wrap_is (by omega) (by omega)
      have e8 : IntKind.i64.wrap (r + 1) = r + 1 := kwrap_is (by omega) (by omega)
      have e9 : IntKind.i64.wrap ((N : Int) - 1) = (N : Int) - 1 := kwrap_is (by omega) (by omega)
      have H4 := Lib.hid h4
      clear h4
      go_wp2_with fail
      refine (H4.out _ HB.out).mono ?_
      rintro e w7 ⟨rfl, hb⟩
      replace HB := Lib.hid (below_then HB.out hb)
      clear hb k0 k1 k2 k3 k4 x0 x1
      go_wp2
      go_ret
      exact ⟨rfl, HB.out⟩


theorem own : ownKnob Try.prog.godebug = none := by kernel_rfl
theorem laid : laidOutB Try.prog = true := by kernel_rfl
theorem one64 : Try.prog.cellsOf 3 = 1 := by kernel_rfl

set_option maxRecDepth 100000 in
theorem lifted (os : Os) (started : os.Started) (H : Type) (enc : TypeId × Value → H) :
    ReturnsInHanded {} Try.checked os 7 .any (Rows.stripeLessSpec.pre6 enc Try.prog Try.f7 Rows.stripeLessRow.domain false) (Rows.stripeLessSpec.post enc Try.prog Try.f7 false true false false) := by
  refine returnsInHanded_of_change (C := Try.checked) own started (by kernel_rfl) Try.func7
    (ChangeSpec.witness6 (enc := enc) (C := Try.checked) false ⟨#[], #[.agg #[.int .i64 0, .int .i64 0, .int .i64 0, .int .i64 0, .int .i64 0], .slice none 0 0, .agg #[.int .i64 0, .int .i64 0]], []⟩ 8 (by kernel_rfl) (by kernel_rfl) (by kernel_rfl) (by kernel_rfl)) ?_
  intro W base args ds gs before hval0 hW _ _
  have hval : ∀ (j : Nat) t v, Try.f7.params[j]? = some t → args[j]? = some v → Value.okWide Try.prog W .any base t v := hval0
  have hW' := hW
  obtain ⟨p, q, hA0, hV, rfl, hfz, hnd⟩ := hW
  have hA : DataW.TrodAll enc Try.prog W 0 (fun _ => true) true Try.f7.params.toList args.toList ds p := hA0
  rw [Try.params7] at hA hval
  obtain ⟨v0, v1, v2, d0, d1, d2, p0, p1, p2, rfl, rfl, rfl, h0, h1, h2⟩ := trodAll_three hA
  obtain ⟨c0, l0, k0, q0, s0, rfl⟩ := open_geo Try.underlying23 rfl (by kernel_rfl) (by kernel_rfl) (hval 0 23 v0 rfl rfl) h0
  obtain ⟨A1, n1, c1, zs1, rfl, hnc1, hcm1, hr1⟩ := open_nums Try.underlying24 Try.underlying3 one64 (hval 1 24 v1 rfl rfl) h1
  obtain ⟨y2, z2, rfl, hby2, hbz2⟩ := open_ints2 Try.underlying38 (by kernel_rfl) Try.underlying3 one64 (hval 2 38 v2 rfl rfl) h2
  refine (walk c0 l0 k0 q0 s0 A1 n1 c1 zs1 y2 z2 W hnc1 hcm1 hr1 hby2.1 hby2.2 hbz2.1 hbz2.2).mono fun e W' ⟨he, hb⟩ => ?_
  subst he
  exact ⟨_, rfl, Law.post laid (by kernel_rfl) (by kernel_rfl) Try.underlying4 rfl hW' rfl hb⟩

theorem proved : Rows.StripeLessSaid :=
  OpenClaim.holds_of_wide 7 Try.f7 rfl rfl rfl rfl rfl rfl rfl ⟨rfl, rfl, rfl, rfl, rfl⟩ rfl rfl rfl rfl rfl (by kernel_rfl) Try.func7 (by kernel_rfl)
    (of_decide_eq_true (by kernel_rfl)) (by unfold Func.isWrapper; first | (rw [if_pos (by decide +kernel)]; kernel_rfl) | (rw [if_neg (by decide +kernel)]; exact ⟨rfl, rfl⟩))
    (fun os started H enc _ => lifted os started H enc)

end Go.Proofs.Ytenmdgclmjfimaa.stripeLess
