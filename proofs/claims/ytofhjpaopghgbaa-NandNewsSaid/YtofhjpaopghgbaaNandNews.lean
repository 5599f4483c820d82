/-
  NandNews holds: which devices there are, for every geometry and all numbers of bad blocks. No condition.
-/
import Derived.Test.YtofhjpaopghgbaaNandRefN
import Derived.Test.YtofhjpaopghgbaaLawKit
import Derived.Test.YtofhjpaopghgbaaStructs
import Derived.OpenShut
namespace Go.Proofs.Ytofhjpaopghgbaa.nandNews
open Go.RowKit Go.ChangeShapes Go.WideShapes Nand NandPkg
set_option maxRecDepth 4000

theorem next_fresh (G : Shape) (rt : Nat → Bool) (u b : Int) : (fresh rt).next G u b = 0 := by
  unfold St.next
  split <;> rfl
theorem wear_fresh (G : Shape) (rt : Nat → Bool) (u b : Int) : (fresh rt).wear G u b = 0 := by
  unfold St.wear
  split <;> rfl

set_option maxHeartbeats 1600000 in
theorem walk (gc gl gk gp gs : Int) (A : Option Addr) (n c : Nat) (zs : List Int) (w : World) (hnc : n ≤ c) (hcm : c ≤ maxLen) (hr : Nums w w.heap.size A n zs) :
    Calls Try.prog 3 #[.agg #[.int .i64 gc, .int .i64 gl, .int .i64 gk, .int .i64 gp, .int .i64 gs], .slice A n c] w fun e w' => e = .returned (.bool true) ∧ Below w.heap.size w w' := by
  have hb0 := (Below.refl w.heap.size w).alloc (Nat.le_refl _) (.cells #[.int .i64 gc, .int .i64 gl, .int .i64 gk, .int .i64 gp, .int .i64 gs] 23)
  have HB := Lib.hid hb0
  have HG := Lib.hid (geo_new w 23 gc gl gk gp gs)
  have HZ := Lib.hid (hr)
  have hnm : n ≤ 9223372036854775807 := Nat.le_trans hnc hcm
  clear hb0 hr hnc hcm
  by_cases hbig : 1000 < n
  · have hd : decide ((1000 : Int) < (n : Int)) = true := by simp; omega
    clear hbig
    go_enter Try.func3, Try.ntmps3
    go_wp2_with fail
    refine (awake_any _).mono ?_
    rintro e w1 ⟨rfl, hb⟩
    replace HB := Lib.hid (below_then HB.out hb)
    clear hb
    go_wp2
    go_ret
    exact ⟨rfl, HB.out⟩
  have hd : decide ((1000 : Int) < (n : Int)) = false := by simp; omega
  by_cases hok : Geom.ok gc gl gk gp gs
  rotate_left
  · have H1 := Lib.hid (fun w V => NandPkg.new_bad (w := w) gc gl gk gp gs hok V)
    have H2 := Lib.hid (fun w V => NandRef.new_bad (w := w) gc gl gk gp gs hok V)
    clear hok hbig
    go_enter Try.func3, Try.ntmps3
    go_wp2_with fail
    refine (awake_any _).mono ?_
    rintro e w1 ⟨rfl, hb⟩
    replace HB := Lib.hid (below_then HB.out hb)
    replace HG := Lib.hid (geo_keep HG.out hb)
    obtain ⟨k0, k1, k2, k3, k4⟩ := HG.out
    clear hb
    go_wp2_with fail
    refine (H1.out _ _).mono ?_
    rintro e w2 ⟨rfl, hb⟩
    replace HB := Lib.hid (below_then HB.out hb)
    replace HG := Lib.hid (geo_keep HG.out hb)
    clear k0 k1 k2 k3 k4 hb
    obtain ⟨k0, k1, k2, k3, k4⟩ := HG.out
    go_wp2_with fail
    refine (H2.out _ _).mono ?_
    rintro e w3 ⟨rfl, hb⟩
    replace HB := Lib.hid (below_then HB.out hb)
    clear hb
    go_wp2
    go_ret
    exact ⟨rfl, HB.out⟩
  obtain ⟨G, rfl, rfl, rfl, rfl, rfl, hG⟩ : ∃ G : Shape, gc = G.c ∧ gl = G.l ∧ gk = G.k ∧ gp = G.p ∧ gs = G.s ∧ G.Ok := ⟨⟨gc, gl, gk, gp, gs, _, _, _, _⟩, rfl, rfl, rfl, rfl, rfl, Geom.sizes hok⟩
  have HOK := Lib.hid hG
  have hn1 : n ≤ 1000000 := by omega
  clear hok hbig hG
  go_enter Try.func3, Try.ntmps3
  go_wp2_with fail
  refine (awake_any _).mono ?_
  rintro e w1 ⟨rfl, hb⟩
  replace HB := Lib.hid (below_then HB.out hb)
  replace HG := Lib.hid (geo_keep HG.out hb)
  obtain ⟨k0, k1, k2, k3, k4⟩ := HG.out
  clear hb
  go_wp2_with fail
  refine (NandPkg.New_any HOK.out A n c w.heap.size zs hn1 (nums_keep HZ.out HB.out) HB.out.size).mono ?_
  rintro e w2 ⟨hor, hb⟩
  have hs1 := HB.out.size
  replace HB := Lib.hid (below_then HB.out hb)
  replace HG := Lib.hid (geo_keep HG.out hb)
  clear k0 k1 k2 k3 k4 hb
  obtain ⟨k0, k1, k2, k3, k4⟩ := HG.out
  rcases hor with ⟨hall, P, rfl, hdev, hup⟩ | ⟨hno, rfl⟩
  rotate_left
  · have HNO := Lib.hid hno
    clear hno
    go_wp2_with fail
    refine (NandRef.New_any HOK.out A n c w.heap.size zs hn1 (nums_keep HZ.out HB.out) HB.out.size).mono ?_
    rintro e w3 ⟨hor, hb⟩
    replace HB := Lib.hid (below_then HB.out hb)
    clear hb
    rcases hor with ⟨hall, _⟩ | ⟨_, rfl⟩
    · exact absurd hall HNO.out
    go_wp2
    go_ret
    exact ⟨rfl, HB.out⟩
  have HALL := Lib.hid hall
  have HD := Lib.hid hdev
  clear hall hdev hup
  go_wp2_with fail
  refine (NandRef.New_any HOK.out A n c w.heap.size zs hn1 (nums_keep HZ.out HB.out) HB.out.size).mono ?_
  rintro e w3 ⟨hor, hb⟩
  replace HB := Lib.hid (below_then HB.out hb)
  replace HG := Lib.hid (geo_keep HG.out hb)
  replace HD := Lib.hid (HD.out.below hb)
  clear hb k0 k1 k2 k3 k4
  rcases hor with ⟨_, Q, rfl, href, hup, hj⟩ | ⟨hno, _⟩
  rotate_left
  · exact absurd HALL.out hno
  have HR := Lib.hid href
  clear href hup hj
  generalize rtOf zs zs.length = rt at HD HR
  have HN1 := Lib.hid (fun wr (hb : Below w3.heap.size w3 wr) (u b : Int) => NandPkg.Retired_any HOK.out (HD.out.below hb) u b)
  have HN2 := Lib.hid (fun wr (hb : Below w3.heap.size w3 wr) (u b : Int) => NandRef.Retired_any HOK.out (HR.out.below hb) u b)
  have HN3 := Lib.hid (fun wr (hb : Below w3.heap.size w3 wr) (u b : Int) => by have h := NandPkg.Next_any HOK.out (HD.out.below hb) u b; rw [next_fresh] at h; exact h)
  have HN4 := Lib.hid (fun wr (hb : Below w3.heap.size w3 wr) (u b : Int) => by have h := NandPkg.Wear_any HOK.out (HD.out.below hb) u b; rw [wear_fresh] at h; exact h)
  go_wp2
  go_loopw [10] (fun i wr => ∃ u : Int, i = .int .i64 u ∧ -1 ≤ u ∧ u ≤ 9 ∧ Below w3.heap.size w3 wr) (fun i _ => (9 - intOf i).toNat)
  case atStart => exact ⟨-1, rfl, by omega, by omega, Below.refl _ _⟩
  case round =>
    obtain ⟨u, rfl, hu0, hu1, hbw⟩ := hrel
    have HBW := Lib.hid hbw
    clear hbw
    by_cases hult : u ≤ 8
    · go_wp2
      go_loopw [11] (fun i wr => ∃ b : Int, i = .int .i64 b ∧ -1 ≤ b ∧ b ≤ 65 ∧ Below w3.heap.size w3 wr) (fun i _ => (65 - intOf i).toNat)
      case atStart => exact ⟨-1, rfl, by omega, by omega, HBW.out⟩
      case round =>
        obtain ⟨b, rfl, hb0, hb1, hbw⟩ := hrel
        clear HBW
        have HBW := Lib.hid hbw
        clear hbw
        by_cases hblt : b ≤ 64
        · have h1 := HN1.out wr HBW.out u b
          have H2 := Lib.hid (fun x (hb : Below w3.heap.size w3 x) => HN2.out x hb u b)
          have H1 := Lib.hid h1
          clear h1
          generalize (fresh rt).retired G u b = z at H1 H2
          go_wp2_with fail
          refine H1.out.mono ?_
          rintro e x1 ⟨rfl, hb⟩
          replace HBW := Lib.hid (below_then HBW.out hb)
          clear hb
          go_wp2_with fail
          refine (H2.out _ HBW.out).mono ?_
          rintro e x2 ⟨rfl, hb⟩
          replace HBW := Lib.hid (below_then HBW.out hb)
          clear hb
          have hzz : (z != z) = false := by cases z <;> rfl
          go_wp2_with fail
          refine (HN3.out _ HBW.out u b).mono ?_
          rintro e x3 ⟨rfl, hb⟩
          replace HBW := Lib.hid (below_then HBW.out hb)
          clear hb
          go_wp2_with fail
          refine (HN4.out _ HBW.out u b).mono ?_
          rintro e x4 ⟨rfl, hb⟩
          replace HBW := Lib.hid (below_then HBW.out hb)
          clear hb
          go_wp2
          go_roundw
          case measure => simp [intOf]; omega
          case rel => exact ⟨b + 1, by go_num, by omega, by omega, HBW.out⟩
        · obtain rfl : b = 65 := by omega
          go_wp2
          go_roundw
          case measure => simp [intOf]; omega
          case rel => exact ⟨u + 1, by go_num, by omega, by omega, HBW.out⟩
    · obtain rfl : u = 9 := by omega
      replace HG := Lib.hid (geo_keep HG.out HBW.out)
      replace HD := Lib.hid (HD.out.below HBW.out)
      replace HB := Lib.hid (below_then HB.out HBW.out).drew
      obtain ⟨k0, k1, k2, k3, k4⟩ := HG.out
      have HX : Hid (Below wr.heap.size wr wr.drew) := Lib.hid (Below.refl _ _).drew
      go_wp2_with fail
      go_region_held3 (fun w' => w'.cell? ⟨w.heap.size, 0, none⟩ = some (.int .i64 G.c) ∧ w'.cell? ⟨w.heap.size, 1, none⟩ = some (.int .i64 G.l) ∧ w'.cell? ⟨w.heap.size, 2, none⟩ = some (.int .i64 G.k) ∧ w'.cell? ⟨w.heap.size, 3, none⟩ = some (.int .i64 G.p) ∧ w'.cell? ⟨w.heap.size, 4, none⟩ = some (.int .i64 G.s))
        (first | exact ⟨k0, k1, k2, k3, k4⟩ | exact geo_keep (by assumption) hb | assumption | go_keep)
        (first
          | (go_at_call 18; refine (Geometry_any (HD.out.below HX.out)).mono ?_; rintro e y1 ⟨rfl, hb⟩; replace HB := Lib.hid (below_then HB.out hb); replace HX := Lib.hid (below_then HX.out hb))
          | (go_at_call 19; refine (Off_any (HD.out.below HX.out)).mono ?_; rintro e y2 ⟨rfl, hw⟩; subst y2)
          | (go_at_call 20; refine (Wrong_any (HD.out.below HX.out)).mono ?_; rintro e y3 ⟨rfl, hw⟩; subst y3))
      all_goals
        rename_i hH
        clear hH
        go_wp2
        go_ret
        exact ⟨by first | rfl | simp, HB.out⟩

theorem own : ownKnob Try.prog.godebug = none := by kernel_rfl
theorem laid : laidOutB Try.prog = true := by kernel_rfl
theorem one64 : Try.prog.cellsOf 3 = 1 := by kernel_rfl

set_option maxRecDepth 100000 in
theorem lifted (os : Os) (started : os.Started) (H : Type) (enc : TypeId × Value → H) :
    ReturnsInHanded {} Try.checked os 3 .any (Rows.nandNewsSpec.pre6 enc Try.prog Try.f3 Rows.nandNewsRow.domain false) (Rows.nandNewsSpec.post enc Try.prog Try.f3 false true false false) := by
  refine returnsInHanded_of_change (C := Try.checked) own started (by kernel_rfl) Try.func3
    (ChangeSpec.witness6 (enc := enc) (C := Try.checked) false ⟨#[], #[.agg #[.int .i64 0, .int .i64 0, .int .i64 0, .int .i64 0, .int .i64 0], .slice none 0 0], []⟩ 8 (by kernel_rfl) (by kernel_rfl) (by kernel_rfl) (by kernel_rfl)) ?_
  intro W base args ds gs before hval0 hW _ _
  have hval : ∀ (j : Nat) t v, Try.f3.params[j]? = some t → args[j]? = some v → Value.okWide Try.prog W .any base t v := hval0
  have hW' := hW
  obtain ⟨p, q, hA0, hV, rfl, hfz, hnd⟩ := hW
  have hA : DataW.TrodAll enc Try.prog W 0 (fun _ => true) true Try.f3.params.toList args.toList ds p := hA0
  rw [Try.params3] at hA hval
  obtain ⟨v0, v1, d0, d1, p0, p1, rfl, rfl, rfl, h0, h1⟩ := trodAll_two hA
  obtain ⟨c0, l0, k0, q0, s0, rfl⟩ := open_geo Try.underlying23 rfl (by kernel_rfl) (by kernel_rfl) (hval 0 23 v0 rfl rfl) h0
  obtain ⟨A1, n1, c1, zs1, rfl, hnc1, hcm1, hr1⟩ := open_nums Try.underlying24 Try.underlying3 one64 (hval 1 24 v1 rfl rfl) h1
  refine (walk c0 l0 k0 q0 s0 A1 n1 c1 zs1 W hnc1 hcm1 hr1).mono fun e W' ⟨he, hb⟩ => ?_
  subst he
  exact ⟨_, rfl, Law.post laid (by kernel_rfl) (by kernel_rfl) Try.underlying4 rfl hW' rfl hb⟩

theorem proved : Rows.NandNewsSaid :=
  OpenClaim.holds_of_wide 3 Try.f3 rfl rfl rfl rfl rfl rfl rfl ⟨rfl, rfl, rfl, rfl, rfl⟩ rfl rfl rfl rfl rfl (by kernel_rfl) Try.func3 (by kernel_rfl)
    (of_decide_eq_true (by kernel_rfl)) (by unfold Func.isWrapper; first | (rw [if_pos (by decide +kernel)]; kernel_rfl) | (rw [if_neg (by decide +kernel)]; exact ⟨rfl, rfl⟩))
    (fun os started H enc _ => lifted os started H enc)

end Go.Proofs.Ytofhjpaopghgbaa.nandNews
