/-
  NandPlays holds: any calls, one by one, for every geometry, all numbers of bad blocks and all ops. No condition.
-/
import Derived.Test.YtcpbgcjmfjlgnaaNandBegun
import Derived.Test.YtcpbgcjmfjlgnaaLawKit
import Derived.Test.YtcpbgcjmfjlgnaaStructs
import Derived.OpenShut
namespace Go.Proofs.Ytcpbgcjmfjlgnaa.nandPlays
open Go.RowKit Go.ChangeShapes Go.WideShapes Nand NandPkg NandLaw NandOps
set_option maxRecDepth 4000

theorem mid_below {G : Shape} {w wr wx : World} {gd gr k : Nat} (h : Mid G w gd gr k wr) (hb : Below wr.heap.size wr wx) : Mid G w gd gr k wx := by
  obtain ⟨P, Q, st, h1, h2, h3, h4, h5, h6, h7, h8⟩ := h
  exact ⟨P, Q, st, h1, h2, h3.below hb, h4, h5, h6, h7, below_then h8 hb⟩

set_option maxHeartbeats 3200000 in
theorem walk (gc gl gk gp gs : Int) (A : Option Addr) (n c : Nat) (zs : List Int) (A2 : Option Addr) (n2 c2 : Nat) (w : World) (hnc : n ≤ c) (hcm : c ≤ maxLen) (hr : Nums w w.heap.size A n zs) (hnc2 : n2 ≤ c2) (hcm2 : c2 ≤ maxLen) (hops : Ops w w.heap.size A2 n2) :
    Calls Try.prog 4 #[.agg #[.int .i64 gc, .int .i64 gl, .int .i64 gk, .int .i64 gp, .int .i64 gs], .slice A n c, .slice A2 n2 c2] w fun e w' => e = .returned (.bool true) ∧ Below w.heap.size w w' := by
  have hb0 := (Below.refl w.heap.size w).alloc (Nat.le_refl _) (.cells #[.int .i64 gc, .int .i64 gl, .int .i64 gk, .int .i64 gp, .int .i64 gs] 23)
  have HB := Lib.hid hb0
  have HGE := Lib.hid (geo_new w 23 gc gl gk gp gs)
  have HZ := Lib.hid hr
  have HOPS := Lib.hid hops
  have hnm : n ≤ 9223372036854775807 := Nat.le_trans hnc hcm
  have hnm2 : n2 ≤ 9223372036854775807 := Nat.le_trans hnc2 hcm2
  clear hb0 hr hnc hcm hops hnc2 hcm2
  by_cases hbig : 1000 < n
  · have hd : decide ((1000 : Int) < (n : Int)) = true := by simp; omega
    clear hbig
    go_enter Try.func4, Try.ntmps4
    go_wp2_with fail
    refine (awake_any _).mono ?_
    rintro e w1 ⟨rfl, hb⟩
    replace HB := Lib.hid (below_then HB.out hb)
    clear hb
    go_wp2
    go_ret
    exact ⟨rfl, HB.out⟩
  have hd : decide ((1000 : Int) < (n : Int)) = false := by simp; omega
  by_cases hok : Geom.ok gc gl gk gp gs
  rotate_left
  · have H1 := Lib.hid (fun w V => NandPkg.new_bad (w := w) gc gl gk gp gs hok V)
    have H2 := Lib.hid (fun w V => NandRef.new_bad (w := w) gc gl gk gp gs hok V)
    clear hok hbig
    go_enter Try.func4, Try.ntmps4
    go_wp2_with fail
    refine (awake_any _).mono ?_
    rintro e w1 ⟨rfl, hb⟩
    replace HB := Lib.hid (below_then HB.out hb)
    replace HGE := Lib.hid (geo_keep HGE.out hb)
    obtain ⟨k0, k1, k2, k3, k4⟩ := HGE.out
    clear hb
    go_wp2_with fail
    refine (H1.out _ _).mono ?_
    rintro e w2 ⟨rfl, hb⟩
    replace HB := Lib.hid (below_then HB.out hb)
    replace HGE := Lib.hid (geo_keep HGE.out hb)
    clear k0 k1 k2 k3 k4 hb
    obtain ⟨k0, k1, k2, k3, k4⟩ := HGE.out
    go_wp2_with fail
    refine (H2.out _ _).mono ?_
    rintro e w3 ⟨rfl, hb⟩
    replace HB := Lib.hid (below_then HB.out hb)
    clear hb k0 k1 k2 k3 k4
    go_wp2
    go_loopw [12] (fun i wr => i = .int .i64 0 ∧ wr = w3) (fun _ _ => 0)
    case atStart => exact ⟨rfl, rfl⟩
    case round =>
      obtain ⟨rfl, hwr⟩ := hrel
      subst wr
      go_wp2
      all_goals
        go_ret
        exact ⟨rfl, HB.out⟩
  obtain ⟨G, rfl, rfl, rfl, rfl, rfl, hG⟩ : ∃ G : Shape, gc = G.c ∧ gl = G.l ∧ gk = G.k ∧ gp = G.p ∧ gs = G.s ∧ G.Ok := ⟨⟨gc, gl, gk, gp, gs, _, _, _, _⟩, rfl, rfl, rfl, rfl, rfl, Geom.sizes hok⟩
  have HG := Lib.hid hG
  have hn1 : n ≤ 1000000 := by omega
  clear hok hbig hG
  go_enter Try.func4, Try.ntmps4
  go_wp2_with fail
  refine (awake_any _).mono ?_
  rintro e w1 ⟨rfl, hb⟩
  replace HB := Lib.hid (below_then HB.out hb)
  replace HGE := Lib.hid (geo_keep HGE.out hb)
  obtain ⟨k0, k1, k2, k3, k4⟩ := HGE.out
  clear hb
  go_wp2_with fail
  refine (NandPkg.New_any HG.out A n c w.heap.size zs hn1 (nums_keep HZ.out HB.out) HB.out.size).mono ?_
  rintro e w2 ⟨hor, hb⟩
  have hs1 := HB.out.size
  replace HB := Lib.hid (below_then HB.out hb)
  replace HGE := Lib.hid (geo_keep HGE.out hb)
  clear k0 k1 k2 k3 k4 hb
  obtain ⟨k0, k1, k2, k3, k4⟩ := HGE.out
  rcases hor with ⟨hall, P, rfl, hdev, hup⟩ | ⟨hno, rfl⟩
  rotate_left
  · have HNO := Lib.hid hno
    clear hno
    go_wp2_with fail
    refine (NandRef.New_any HG.out A n c w.heap.size zs hn1 (nums_keep HZ.out HB.out) HB.out.size).mono ?_
    rintro e w3 ⟨hor, hb⟩
    replace HB := Lib.hid (below_then HB.out hb)
    clear hb k0 k1 k2 k3 k4
    rcases hor with ⟨hall, _⟩ | ⟨_, rfl⟩
    · exact absurd hall HNO.out
    go_wp2
    go_loopw [12] (fun i wr => i = .int .i64 0 ∧ wr = w3) (fun _ _ => 0)
    case atStart => exact ⟨rfl, rfl⟩
    case round =>
      obtain ⟨rfl, hwr⟩ := hrel
      subst wr
      go_wp2
      all_goals
        go_ret
        exact ⟨rfl, HB.out⟩
  have HALL := Lib.hid hall
  have HD := Lib.hid hdev
  have HUP : Hid (∀ b, P.own b → w.heap.size ≤ b) := Lib.hid (fun b hb => Nat.le_trans hs1 (hup b hb))
  clear hall hdev hup
  go_wp2_with fail
  refine (NandRef.New_any HG.out A n c w.heap.size zs hn1 (nums_keep HZ.out HB.out) HB.out.size).mono ?_
  rintro e w3 ⟨hor, hb⟩
  have hs2 := HB.out.size
  rcases hor with ⟨_, Q, rfl, href, hup, hj⟩ | ⟨hno, _⟩
  rotate_left
  · exact absurd HALL.out hno
  have HM : Hid (Mid G w P.g Q.g 0 w3) := Lib.hid ⟨P, Q, _, rfl, rfl, ⟨HD.out.below hb, href, Inv.fresh HG.out _, fun b hp hq => by have := HD.out.lt b hp; have := hup b hq; omega⟩, fun b hb => hb.elim (HUP.out b) (fun h => Nat.le_trans hs2 (hup b h)), by omega, by show (0 : Int) ≤ 0; omega, by show (0 : Int) ≤ _; omega, below_then HB.out hb⟩
  generalize P.g = gd at HM
  generalize Q.g = gr at HM
  clear k0 k1 k2 k3 k4 hb href hup hs1 hs2 hj HD HUP HB HGE HALL
  go_wp2
  go_loopw [12] (fun i wr => ∃ k : Nat, i = .int .i64 k ∧ k ≤ n2 ∧ k ≤ 80 ∧ Mid G w gd gr k wr) (fun i _ => 80 - (intOf i).toNat)
  case atStart => exact ⟨0, rfl, by omega, by omega, HM.out⟩
  case round =>
    obtain ⟨k, rfl, hk, hk80, P, Q, st, rfl, rfl, hboth, hup, hj, hm0, hm1, hbw⟩ := hrel
    have HBO := Lib.hid hboth
    have HUP := Lib.hid hup
    have HBW := Lib.hid hbw
    clear hboth hup hbw HM
    by_cases hlt : k < n2 ∧ k < 80
    · have d1 : decide ((k : Int) < (n2 : Int)) = true := by simp; omega
      have d2 : decide ((k : Int) < 80) = true := by simp; omega
      obtain ⟨b, off, x0, x1, x2, x3, x4, odd, xs, Ap, np, cp, rfl, hop⟩ := HOPS.out.keep HBW.out k hlt.1
      obtain ⟨q0, q1, q2, q3, q4, q5, q6, hbl, hf1, hf2, hpl⟩ := hop
      have HDO := Lib.hid (does_any HG.out HBO.out ⟨x0, x1, x2, x3, x4, odd, xs⟩ Ap np cp w.heap.size hpl HBW.out.size HUP.out (by omega) hm0 (by omega))
      have HSM := Lib.hid (step_many (G := G) st ⟨x0, x1, x2, x3, x4, odd, xs⟩ hm0)
      generalize NandLaw.step G st ⟨x0, x1, x2, x3, x4, odd, xs⟩ = s' at HDO HSM
      have hkn := hlt.1
      have hk8 := hlt.2
      clear hpl hf1 hf2 hlt
      go_wp2_with fail
      refine HDO.out.mono ?_
      rintro e w4 ⟨rfl, P', Q', hg1, hg2, hb2, hbb, hup2, hj2⟩
      have HM2 : Hid (Mid G w P.g Q.g (k + 1) w4) := Lib.hid ⟨P', Q', s', hg1, hg2, hb2, hup2, by omega, HSM.out.1, by have := HSM.out.2; omega, HBW.out.trans hbb⟩
      have HB2 := Lib.hid hb2
      have e1 : w4.cell? ⟨b, off + k * 7 + 1, none⟩ = some (.int .i64 x1) := (hbb.cell (p := ⟨b, off + k * 7 + 1, none⟩) hbl).trans q1
      have e2 : w4.cell? ⟨b, off + k * 7 + 2, none⟩ = some (.int .i64 x2) := (hbb.cell (p := ⟨b, off + k * 7 + 2, none⟩) hbl).trans q2
      clear hb2 hbb hup2 hj2 q0 q1 q2 q3 q4 q5 q6 hbl
      go_wp2_with fail
      go_region_held3 (fun w' => w'.cell? ⟨b, off + k * 7 + 1, none⟩ = some (.int .i64 x1) ∧ w'.cell? ⟨b, off + k * 7 + 2, none⟩ = some (.int .i64 x2))
        (first | exact ⟨e1, e2⟩ | go_keep)
        (fail)
      rename_i hH
      clear hH e1 e2
      have H1 := Lib.hid (fun X (hb : Below w4.heap.size w4 X) => by have h := NandPkg.Off_any (HB2.out.dev.below hb); rw [hg1] at h; exact h)
      have H2 := Lib.hid (fun X (hb : Below w4.heap.size w4 X) => by have h := NandPkg.Wrong_any (HB2.out.dev.below hb); rw [hg1] at h; exact h)
      have H3 := Lib.hid (fun X (hb : Below w4.heap.size w4 X) => by have h := NandPkg.Next_any HG.out (HB2.out.dev.below hb) x1 x2; rw [hg1] at h; exact h)
      have H4 := Lib.hid (fun X (hb : Below w4.heap.size w4 X) => by have h := NandRef.Next_any HG.out (HB2.out.ref.below hb) x1 x2; rw [hg2] at h; exact h)
      have H5 := Lib.hid (fun X (hb : Below w4.heap.size w4 X) => by have h := NandPkg.Wear_any HG.out (HB2.out.dev.below hb) x1 x2; rw [hg1] at h; exact h)
      have H6 := Lib.hid (fun X (hb : Below w4.heap.size w4 X) => by have h := NandRef.Wear_any HG.out (HB2.out.ref.below hb) x1 x2; rw [hg2] at h; exact h)
      have H7 := Lib.hid (fun X (hb : Below w4.heap.size w4 X) => by have h := NandPkg.Retired_any HG.out (HB2.out.dev.below hb) x1 x2; rw [hg1] at h; exact h)
      have H8 := Lib.hid (fun X (hb : Below w4.heap.size w4 X) => by have h := NandRef.Retired_any HG.out (HB2.out.ref.below hb) x1 x2; rw [hg2] at h; exact h)
      have rr := HB2.out.ref.cells.2.2.2.2.2.2
      rw [hg2] at rr
      generalize s'.off = of at H1 rr
      generalize s'.wrong = wg at H2 rr
      generalize s'.next G x1 x2 = nx at H3 H4
      generalize s'.wear G x1 x2 = we at H5 H6
      generalize s'.retired G x1 x2 = re at H7 H8
      obtain ⟨r10, r11⟩ := rr
      clear HB2 hg1 hg2 HSM HDO HBO HUP
      go_wp2_with fail
      refine at_wld ?_
      intro X hX
      have hbX : Below w4.heap.size w4 X := by rw [hX]; exact (Below.refl _ _).drew
      replace r10 := cell_stays hbX r10
      replace r11 := cell_stays hbX r11
      have HX : Hid (Below w4.heap.size w4 X.drew) := Lib.hid hbX.drew
      clear hX hbX
      go_region_held3 (fun w' => w'.cell? ⟨Q.g, 10, none⟩ = some (.bool of) ∧ w'.cell? ⟨Q.g, 11, none⟩ = some (.int .i64 wg))
        (first | exact ⟨r10, r11⟩ | exact held2_keep (by assumption) hb | go_keep)
        (first
          | (go_at_call 19; refine (H1.out _ HX.out).mono ?_; rintro e y2 ⟨rfl, hw⟩; subst y2)
          | (go_at_call 20; refine (H2.out _ HX.out).mono ?_; rintro e y3 ⟨rfl, hw⟩; subst y3)
          | (go_at_call 16; refine (H3.out _ HX.out).mono ?_; rintro e y4 ⟨rfl, hb⟩; replace HX := Lib.hid (below_then HX.out hb))
          | (go_at_call 22; refine (H4.out _ HX.out).mono ?_; rintro e y5 ⟨rfl, hb⟩; replace HX := Lib.hid (below_then HX.out hb))
          | (go_at_call 17; refine (H5.out _ HX.out).mono ?_; rintro e y6 ⟨rfl, hb⟩; replace HX := Lib.hid (below_then HX.out hb))
          | (go_at_call 23; refine (H6.out _ HX.out).mono ?_; rintro e y7 ⟨rfl, hb⟩; replace HX := Lib.hid (below_then HX.out hb))
          | (go_at_call 14; refine (H7.out _ HX.out).mono ?_; rintro e y8 ⟨rfl, hb⟩; replace HX := Lib.hid (below_then HX.out hb))
          | (go_at_call 15; refine (H8.out _ HX.out).mono ?_; rintro e y9 ⟨rfl, hb⟩; replace HX := Lib.hid (below_then HX.out hb)))
      all_goals
        rename_i hH
        clear hH
        go_wp2
        go_roundw
        case measure => simp [intOf]; omega
        case rel => exact ⟨k + 1, by go_num, by omega, by omega, mid_below HM2.out HX.out⟩
    · go_wp2
      all_goals
        go_ret
        exact ⟨rfl, HBW.out⟩

theorem own : ownKnob Try.prog.godebug = none := by kernel_rfl
theorem laid : laidOutB Try.prog = true := by kernel_rfl
theorem one64 : Try.prog.cellsOf 3 = 1 := by kernel_rfl

set_option maxRecDepth 100000 in
theorem lifted (os : Os) (started : os.Started) (H : Type) (enc : TypeId × Value → H) :
    ReturnsInHanded {} Try.checked os 4 .any (Rows.nandPlaysSpec.pre6 enc Try.prog Try.f4 Rows.nandPlaysRow.domain false) (Rows.nandPlaysSpec.post enc Try.prog Try.f4 false true false false) := by
  refine returnsInHanded_of_change (C := Try.checked) own started (by kernel_rfl) Try.func4
    (ChangeSpec.witness6 (enc := enc) (C := Try.checked) false ⟨#[], #[.agg #[.int .i64 0, .int .i64 0, .int .i64 0, .int .i64 0, .int .i64 0], .slice none 0 0, .slice none 0 0], []⟩ 8 (by kernel_rfl) (by kernel_rfl) (by kernel_rfl) (by kernel_rfl)) ?_
  intro W base args ds gs before hval0 hW _ _
  have hval : ∀ (j : Nat) t v, Try.f4.params[j]? = some t → args[j]? = some v → Value.okWide Try.prog W .any base t v := hval0
  have hW' := hW
  obtain ⟨p, q, hA0, hV, rfl, hfz, hnd⟩ := hW
  have hA : DataW.TrodAll enc Try.prog W 0 (fun _ => true) true Try.f4.params.toList args.toList ds p := hA0
  rw [Try.params4] at hA hval
  obtain ⟨v0, v1, v2, d0, d1, d2, p0, p1, p2, rfl, rfl, rfl, h0, h1, h2⟩ := trodAll_three hA
  obtain ⟨c0, l0, k0, q0, s0, rfl⟩ := open_geo Try.underlying23 rfl (by kernel_rfl) (by kernel_rfl) (hval 0 23 v0 rfl rfl) h0
  obtain ⟨A1, n1, c1, zs1, rfl, hnc1, hcm1, hr1⟩ := open_nums Try.underlying24 Try.underlying3 one64 (hval 1 24 v1 rfl rfl) h1
  obtain ⟨A2, n2, c2, rfl, hnc2, hcm2, hr2⟩ := NandOps.open_ops (hval 2 45 v2 rfl rfl) h2
  refine (walk c0 l0 k0 q0 s0 A1 n1 c1 zs1 A2 n2 c2 W hnc1 hcm1 hr1 hnc2 hcm2 hr2).mono fun e W' ⟨he, hb⟩ => ?_
  subst he
  exact ⟨_, rfl, Law.post laid (by kernel_rfl) (by kernel_rfl) Try.underlying4 rfl hW' rfl hb⟩

theorem proved : Rows.NandPlaysSaid :=
  OpenClaim.holds_of_wide 4 Try.f4 rfl rfl rfl rfl rfl rfl rfl ⟨rfl, rfl, rfl, rfl, rfl⟩ rfl rfl rfl rfl rfl (by kernel_rfl) Try.func4 (by kernel_rfl)
    (of_decide_eq_true (by kernel_rfl)) (by unfold Func.isWrapper; first | (rw [if_pos (by decide +kernel)]; kernel_rfl) | (rw [if_neg (by decide +kernel)]; exact ⟨rfl, rfl⟩))
    (fun os started H enc _ => lifted os started H enc)

end Go.Proofs.Ytcpbgcjmfjlgnaa.nandPlays
