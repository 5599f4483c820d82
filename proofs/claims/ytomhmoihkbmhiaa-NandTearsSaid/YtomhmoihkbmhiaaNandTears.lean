/-
  NandTears holds: of a page within whose programming the power goes a beginning can be read, and the power is off till it comes; for every geometry, all ops and every byte. No condition.
-/
import Derived.Test.YtomhmoihkbmhiaaNandBegun
import Derived.Test.YtomhmoihkbmhiaaLawKit
import Derived.Test.YtomhmoihkbmhiaaStructs
import Derived.OpenShut
import Derived.Test.YtomhmoihkbmhiaaMade
namespace Go.Proofs.Ytomhmoihkbmhiaa.nandTears
open Go.RowKit Go.ChangeShapes Go.WideShapes Nand NandPkg NandLaw NandOps
set_option maxRecDepth 4000

theorem geo_low {w wr : World} {b : Nat} {c l k p s : Int} (h : Geo w b c l k p s) (hb : Below (b + 1) w wr) : Geo wr b c l k p s :=
  ⟨(hb.cell (p := ⟨b, 0, none⟩) (Nat.lt_succ_self _)).trans h.1, (hb.cell (p := ⟨b, 1, none⟩) (Nat.lt_succ_self _)).trans h.2.1, (hb.cell (p := ⟨b, 2, none⟩) (Nat.lt_succ_self _)).trans h.2.2.1, (hb.cell (p := ⟨b, 3, none⟩) (Nat.lt_succ_self _)).trans h.2.2.2.1, (hb.cell (p := ⟨b, 4, none⟩) (Nat.lt_succ_self _)).trans h.2.2.2.2⟩

theorem has0 {G : Shape} (h : G.Ok) : has G 0 0 := ⟨by omega, by have := h.u0; omega, by omega, by have := h.may.2.2.2.2.1; omega⟩

theorem ops_more {w w' : World} {B B' : Nat} {A : Option Addr} {n : Nat} (h : Ops w B A n) (hk : Below B w w') (hB : B ≤ B') : Ops w' B' A n := fun i hi => by
  obtain ⟨b, off, x0, x1, x2, x3, x4, odd, xs, Ap, np, cp, e, c0, c1, c2, c3, c4, c5, c6, h7, h8, h9, h10⟩ := h.keep hk i hi
  exact ⟨b, off, x0, x1, x2, x3, x4, odd, xs, Ap, np, cp, e, c0, c1, c2, c3, c4, c5, c6, Nat.lt_of_lt_of_le h7 hB, h8, h9, bytes_more h10 hB⟩

/-- What is good. -/
def fine (x : UInt8) : Bool := decide (x.toNat % 4 = 0 ∨ x.toNat % 4 = 3)

theorem says_one (x : UInt8) : Plan.says [x] = Plan.out (x.toNat : Int) := rfl

theorem says_fine (x : UInt8) : (fine x = true → Plan.says [x] = 0) ∧ (fine x = false → Plan.says [x] = 1 ∨ Plan.says [x] = 2) := by
  rw [says_one]
  unfold fine Plan.out
  constructor
  · intro h
    have h := of_decide_eq_true h
    split
    · rfl
    · omega
  · intro h
    have h := of_decide_eq_false h
    split
    · omega
    · omega

theorem read_none {G : Shape} {st : St} {a : Int} (h1 : st.off = false) (h2 : 0 ≤ a ∧ a < G.N) (h3 : st.rd a = none) : st.reads G a = ([], [], 6) := by
  unfold St.reads
  rw [if_neg (by rw [h1]; simp), if_neg (fun h => h h2), h3]

/-- The power goes within a programming, by one byte. -/
theorem tear_one {G : Shape} (hG : G.Ok) {st : St} (x : UInt8) (g n : Int) (h1 : st.off = false) (h2 : st.rt (blk G 0 0) = false) (h3 : st.plan = [x]) (h4 : st.many = 0) (h5 : g = st.nx (blk G 0 0)) (h6 : 0 ≤ g ∧ g < G.p) (hx : x.toNat % 4 = 2) :
    ∃ st2, st.program G 0 0 g (dats n (few G.s)) (oobs n false (few G.s)) = (5, st2) ∧ st2.off = true ∧ st2.nx (blk G 0 0) = g + 1 ∧ st2.rd = lay G 0 0 g (dats n (few G.s)) (oobs n false (few G.s)) st.rd ((x.toNat : Int) / 4 % (G.s + 1)).toNat ∧ st2.many = 1 := by
  have hs := hG.may.2.2.2.2.2.2.2.2
  have hb : mayBe G 0 0 g (dats n (few G.s)) (oobs n false (few G.s)) := ⟨has0 hG, h6.1, h6.2, fit_dats hG n, fit_oobs hG n⟩
  have hm := may_good (st := st) hb h2 h5
  have e1 : Plan.out (x.toNat : Int) = 2 := by
    unfold Plan.out
    rw [if_neg (by omega)]
    omega
  have e2 : Plan.many [x] G.s = (x.toNat : Int) / 4 % (G.s + 1) := by
    show Plan.wrt _ _ = _
    unfold Plan.wrt
    rw [if_pos ⟨e1, by omega, by omega⟩]
  unfold St.program
  rw [if_neg (by rw [h1]; simp), if_neg (fun h => h hm), h3, h4, if_neg (by rw [says_one, e1]; decide), if_pos (by rw [says_one, e1]), e2]
  exact ⟨_, rfl, rfl, upd_same _ _ _, rfl, rfl⟩

theorem few_lt {s : Int} {k : Nat} (hk : (k : Int) < s) (hs : 1 ≤ s ∧ s ≤ 4) : k < few s := by
  unfold few
  omega

theorem off_read {G : Shape} {st : St} (a : Int) (h : st.off = true) : st.reads G a = ([], [], 5) := by
  unfold St.reads
  rw [if_pos h]
theorem off_erase {G : Shape} {st : St} (u b : Int) (h : st.off = true) : st.erase G u b = (5, st) := by
  unfold St.erase
  rw [if_pos h]
theorem off_retire {G : Shape} {st : St} (u b : Int) (h : st.off = true) : st.retire G u b = (5, st) := by
  unfold St.retire
  rw [if_pos h]
theorem off_program {G : Shape} {st : St} (u b g : Int) (dat oob : List (List UInt8)) (h : st.off = true) : st.program G u b g dat oob = (5, st) := by
  unfold St.program
  rw [if_pos h]

set_option maxHeartbeats 3200000 in
theorem walk (gc gl gk gp gs : Int) (A : Option Addr) (n c : Nat) (x : Int) (w : World) (hnc : n ≤ c) (hcm : c ≤ maxLen) (hops : Ops w w.heap.size A n) (hx0 : 0 ≤ x) (hx1 : x ≤ 255) :
    Calls Try.prog 7 #[.agg #[.int .i64 gc, .int .i64 gl, .int .i64 gk, .int .i64 gp, .int .i64 gs], .slice A n c, .int .u8 x] w fun e w' => e = .returned (.bool true) ∧ Below w.heap.size w w' := by
  obtain ⟨y, rfl⟩ : ∃ y : UInt8, x = (y.toNat : Int) := ⟨UInt8.ofNat x.toNat, by rw [UInt8.toNat_ofNat']; omega⟩
  have HB := Lib.hid ((Below.refl w.heap.size w).alloc (Nat.le_refl _) (.cells #[.int .i64 gc, .int .i64 gl, .int .i64 gk, .int .i64 gp, .int .i64 gs] 23))
  have HGE := Lib.hid (geo_new w 23 gc gl gk gp gs)
  have HOPS := Lib.hid hops
  have hnm : n ≤ maxLen := Nat.le_trans hnc hcm
  have HNM := Lib.hid hnm
  clear hops hnc hcm hnm
  by_cases hok : Geom.ok gc gl gk gp gs
  rotate_left
  · have H1 := Lib.hid (fun w V => begun_bad (w := w) gc gl gk gp gs hok V)
    have H2 := Lib.hid (fun w => rright_bad hok w)
    clear hok
    go_enter Try.func7, Try.ntmps7
    go_wp2_with fail
    refine (awake_any _).mono ?_
    rintro e w1 ⟨rfl, hb⟩
    replace HB := Lib.hid (below_then HB.out hb)
    replace HGE := Lib.hid (geo_keep HGE.out hb)
    obtain ⟨k0, k1, k2, k3, k4⟩ := HGE.out
    clear hb
    go_wp2_with fail
    refine (H1.out _ _).mono ?_
    rintro e w2 ⟨rfl, hb⟩
    replace HB := Lib.hid (below_then HB.out hb)
    replace HGE := Lib.hid (geo_keep HGE.out hb)
    clear k0 k1 k2 k3 k4 hb
    obtain ⟨k0, k1, k2, k3, k4⟩ := HGE.out
    go_wp2_with fail
    refine (H2.out _).mono ?_
    rintro e w3 ⟨rfl, hb⟩
    replace HB := Lib.hid (below_then HB.out hb)
    clear hb k0 k1 k2 k3 k4
    go_wp2
    go_ret
    exact ⟨rfl, HB.out⟩
  obtain ⟨G, rfl, rfl, rfl, rfl, rfl, hG⟩ : ∃ G : Shape, gc = G.c ∧ gl = G.l ∧ gk = G.k ∧ gp = G.p ∧ gs = G.s ∧ G.Ok := ⟨⟨gc, gl, gk, gp, gs, _, _, _, _⟩, rfl, rfl, rfl, rfl, rfl, Geom.sizes hok⟩
  have HG := Lib.hid hG
  clear hok hG
  go_enter Try.func7, Try.ntmps7
  go_wp2_with fail
  refine (awake_any _).mono ?_
  rintro e w1 ⟨rfl, hb⟩
  replace HB := Lib.hid (below_then HB.out hb)
  replace HGE := Lib.hid (geo_keep HGE.out hb)
  obtain ⟨k0, k1, k2, k3, k4⟩ := HGE.out
  clear hb
  have HS1 : Hid (w.heap.size + 1 ≤ w1.heap.size) := Lib.hid (World.block_lt_of_cell? _ _ k0)
  go_wp2_with fail
  refine (begun_any HG.out A n c HNM.out (ops_more HOPS.out HB.out HB.out.size)).mono ?_
  rintro e w2 ⟨P, st, rfl, hd, hoff, hplan, hmany, hinv, hown, hb⟩
  have HUP : Hid (∀ b, P.own b → w.heap.size + 1 ≤ b) := Lib.hid (fun b hb => Nat.le_trans HS1.out (hown b hb))
  have HD := Lib.hid hd
  have HINV := Lib.hid hinv
  have HST := Lib.hid (And.intro hoff (And.intro hplan hmany))
  have HC : Hid (Below (w.heap.size + 1) w1 w2) := Lib.hid (hb.mono HS1.out)
  obtain ⟨gd, hgd⟩ : ∃ gd, gd = P.g := ⟨_, rfl⟩
  rw [← hgd]
  have HGD := Lib.hid hgd.symm
  clear hd hoff hplan hmany hinv hown hgd k0 k1 k2 k3 k4 hb
  obtain ⟨k0, k1, k2, k3, k4⟩ := geo_low HGE.out HC.out
  have hnb := HINV.out.1 (blk G 0 0)
  have hn0 := Next_any HG.out HD.out 0 0
  rw [show st.next G 0 0 = st.nx (blk G 0 0) from if_pos (has0 HG.out), HGD.out] at hn0
  obtain ⟨g, hg⟩ : ∃ g, g = st.nx (blk G 0 0) := ⟨_, rfl⟩
  rw [← hg] at hn0 hnb
  have HGN := Lib.hid hg
  have HN0 := Lib.hid hn0
  clear hg hn0
  have hpp : 1 ≤ G.p ∧ G.p ≤ 32 := ⟨HG.out.may.2.2.2.2.2.2.1, HG.out.may.2.2.2.2.2.2.2.1⟩
  go_wp2_with fail
  refine HN0.out.mono ?_
  rintro e w3 ⟨rfl, hb⟩
  replace HD := Lib.hid (HD.out.below hb)
  replace HC := Lib.hid (HC.out.trans (hb.mono (Nat.le_trans HS1.out HC.out.size)))
  clear k0 k1 k2 k3 k4 hb
  obtain ⟨k0, k1, k2, k3, k4⟩ := geo_low HGE.out HC.out
  have dn : decide (g < 0) = false := by simp; omega
  by_cases hfull : G.p ≤ g
  · have df : decide (G.p ≤ g) = true := by simpa using hfull
    go_wp2
    go_ret
    exact ⟨rfl, HB.out.trans (HC.out.mono (Nat.le_succ _))⟩
  have df : decide (G.p ≤ g) = false := by simpa using hfull
  have hr0 := Retired_any HG.out HD.out 0 0
  rw [show st.retired G 0 0 = st.rt (blk G 0 0) from if_pos (has0 HG.out), HGD.out] at hr0
  have HR0 := Lib.hid hr0
  clear hr0
  by_cases hno : st.rt (blk G 0 0) = true ∨ ¬ y.toNat % 4 = 2
  · cases hrt : st.rt (blk G 0 0) with
    | true =>
      rw [hrt] at HR0
      clear hrt hno
      go_wp2_with fail
      refine HR0.out.mono ?_
      rintro e w4 ⟨rfl, hb⟩
      replace HD := Lib.hid (HD.out.below hb)
      replace HC := Lib.hid (HC.out.trans (hb.mono (Nat.le_trans HS1.out HC.out.size)))
      clear k0 k1 k2 k3 k4 hb
      obtain ⟨k0, k1, k2, k3, k4⟩ := geo_low HGE.out HC.out
      go_wp2
      go_ret
      exact ⟨rfl, HB.out.trans (HC.out.mono (Nat.le_succ _))⟩
    | false =>
      have hm : ((y.toNat : Int) % 4 == 2) = false := by
        rcases hno with h | h
        · rw [hrt] at h
          cases h
        · simp
          omega
      have hm2 : ¬ (y.toNat : Int) % 4 = 2 := by simpa using hm
      rw [hrt] at HR0
      clear hrt hno
      go_wp2_with fail
      refine HR0.out.mono ?_
      rintro e w4 ⟨rfl, hb⟩
      replace HD := Lib.hid (HD.out.below hb)
      replace HC := Lib.hid (HC.out.trans (hb.mono (Nat.le_trans HS1.out HC.out.size)))
      clear k0 k1 k2 k3 k4 hb
      obtain ⟨k0, k1, k2, k3, k4⟩ := geo_low HGE.out HC.out
      go_wp2
      go_ret
      exact ⟨rfl, HB.out.trans (HC.out.mono (Nat.le_succ _))⟩
  have hrt : st.rt (blk G 0 0) = false := by
    cases h : st.rt (blk G 0 0) with
    | true => exact absurd (Or.inl h) hno
    | false => rfl
  have hy2 : y.toNat % 4 = 2 := by
    by_cases h : y.toNat % 4 = 2
    · exact h
    · exact absurd (Or.inr h) hno
  rw [hrt] at HR0
  have HRT := Lib.hid hrt
  have HY2 := Lib.hid hy2
  have hm2 : (y.toNat : Int) % 4 = 2 := by omega
  clear hno hrt hy2
  go_wp2_with fail
  refine HR0.out.mono ?_
  rintro e w4 ⟨rfl, hb⟩
  replace HD := Lib.hid (HD.out.below hb)
  replace HC := Lib.hid (HC.out.trans (hb.mono (Nat.le_trans HS1.out HC.out.size)))
  clear k0 k1 k2 k3 k4 hb
  obtain ⟨k0, k1, k2, k3, k4⟩ := geo_low HGE.out HC.out
  go_wp2_with fail
  have hbx : Below w4.heap.size w4 (w4.alloc (.cells #[.int .u8 (y.toNat : Int)] 5)) := (Below.refl _ _).alloc (Nat.le_refl _) _
  have hpl := Plan_any (HD.out.below hbx) (some ⟨w4.heap.size, 0, none⟩) 1 1 (w4.heap.size + 1) [y] (by omega) (bytes_new w4 [y] _ _ _ rfl) (by simp)
  rw [HGD.out] at hpl
  refine hpl.mono ?_
  rintro e w5 ⟨rfl, P', hg', hd, ht'⟩
  have ht := (Turn.of_below P.own hbx).trans ht'
  replace HGD : Hid (P'.g = gd) := Lib.hid hg'
  clear ht' hg' hpl hbx
  have HUP0 := HUP
  replace HUP := Lib.hid (ht.up (fun b hb => HUP.out b hb) (Nat.le_trans HS1.out HC.out.size))
  replace HC := Lib.hid (HC.out.trans (ht.below (fun b hb => HUP0.out b hb) (Nat.le_trans HS1.out HC.out.size)))
  replace HD := Lib.hid hd
  clear k0 k1 k2 k3 k4 ht hd HUP0
  obtain ⟨k0, k1, k2, k3, k4⟩ := geo_low HGE.out HC.out
  go_wp2_with fail
  refine (Sectors_any G.c G.l G.k G.p G.s 99 false w5).mono ?_
  rintro e w6 ⟨v1, v2, rfl, hs1, hs2, hb⟩
  obtain ⟨A1, c1, A2, c2, rfl, rfl, hc1, hcame⟩ := came_sect hs1 hs2
  have HDW := Lib.hid HD.out.lt
  obtain ⟨D, hD⟩ : ∃ D : Nat → Prop, D = fun b => w5.heap.size ≤ b ∧ b < w6.heap.size := ⟨_, rfl⟩
  have HDN : Hid (∀ b, D b → ¬ P'.own b) := Lib.hid (fun b hb2 ho => by rw [hD] at hb2; have := HDW.out b ho; omega)
  rw [← hD] at hcame
  have HCA := Lib.hid hcame
  clear hs1 hs2 hD hcame HDW
  replace HD := Lib.hid (HD.out.below hb)
  replace HC := Lib.hid (HC.out.trans (hb.mono (Nat.le_trans HS1.out HC.out.size)))
  clear k0 k1 k2 k3 k4 hb
  obtain ⟨k0, k1, k2, k3, k4⟩ := geo_low HGE.out HC.out
  obtain ⟨st2, hPR, h1, h2, h3, h4⟩ := tear_one HG.out (st := { st with plan := [y], many := 0 }) y g 99 HST.out.1 HRT.out rfl rfl HGN.out (by omega) HY2.out
  have hP := Program_any HG.out HD.out 0 0 g A1 A2 (few G.s) (few G.s) c1 c2 (dats 99 (few G.s)) (oobs 99 false (few G.s)) HCA.out HDN.out hc1 (by show (0 : Int) ≤ 0; omega) (by show (0 : Int) < _; omega)
  rw [hPR, HGD.out] at hP
  have HS2 := Lib.hid (And.intro h1 (And.intro h2 (And.intro h3 h4)))
  clear h1 h2 h3 h4 hPR
  obtain ⟨f, hf⟩ : ∃ f, f = few G.s := ⟨_, rfl⟩
  rw [← hf] at hP hc1 HCA ⊢
  have HF := Lib.hid hf
  clear hf
  go_wp2_with fail
  refine hP.mono ?_
  rintro e w7 ⟨rfl, P2, hg2, hd, ht⟩
  replace HGD : Hid (P2.g = gd) := Lib.hid hg2
  clear hP hg2
  have HCA1 := Lib.hid (HCA.out.turn ht HDN.out)
  replace HDN := Lib.hid (ht.apart (fun b hb => HCA.out.lt b hb) HDN.out)
  replace HCA := HCA1
  clear HCA1
  have HUP0 := HUP
  replace HUP := Lib.hid (ht.up (fun b hb => HUP.out b hb) (Nat.le_trans HS1.out HC.out.size))
  replace HC := Lib.hid (HC.out.trans (ht.below (fun b hb => HUP0.out b hb) (Nat.le_trans HS1.out HC.out.size)))
  replace HD := Lib.hid hd
  clear k0 k1 k2 k3 k4 ht hd HUP0
  obtain ⟨k0, k1, k2, k3, k4⟩ := geo_low HGE.out HC.out
  have hp : Geom.there G.U G.k G.p G.s 0 0 g 0 := ⟨by omega, (has0 HG.out).2.1, by omega, (has0 HG.out).2.2.2, by omega, by omega, by omega, HG.out.may.2.2.2.2.2.2.2.2.1⟩
  obtain ⟨a, ha⟩ : ∃ a, a = adr G 0 0 g 0 := ⟨_, rfl⟩
  have HAD := Lib.hid ha
  have hNU := num_in HG.out 0 0 g 0 a hp ha w7
  clear hp ha
  go_wp2_with fail
  refine hNU.mono ?_
  rintro e w8 ⟨rfl, hb⟩
  clear hNU
  replace HCA := Lib.hid (HCA.out.below hb)
  replace HD := Lib.hid (HD.out.below hb)
  replace HC := Lib.hid (HC.out.trans (hb.mono (Nat.le_trans HS1.out HC.out.size)))
  clear k0 k1 k2 k3 k4 hb
  obtain ⟨k0, k1, k2, k3, k4⟩ := geo_low HGE.out HC.out
  have hO := Off_any HD.out
  rw [HS2.out.1, HGD.out] at hO
  go_wp2_with fail
  refine hO.mono ?_
  rintro e w9 ⟨rfl, hw⟩
  subst w9
  clear hO
  have hR := Read_any HG.out HD.out a
  rw [off_read a HS2.out.1, HGD.out] at hR
  go_wp2_with fail
  refine hR.mono ?_
  rintro e w9 ⟨v, v', rfl, _, _, hb⟩
  clear hR
  replace HCA := Lib.hid (HCA.out.below hb)
  replace HD := Lib.hid (HD.out.below hb)
  replace HC := Lib.hid (HC.out.trans (hb.mono (Nat.le_trans HS1.out HC.out.size)))
  clear k0 k1 k2 k3 k4 hb
  obtain ⟨k0, k1, k2, k3, k4⟩ := geo_low HGE.out HC.out
  have hE := Erase_any HG.out HD.out 0 0 (by rw [HS2.out.2.2.2]; omega) (by rw [HS2.out.2.2.2]; omega)
  rw [off_erase 0 0 HS2.out.1, HGD.out] at hE
  go_wp2_with fail
  refine hE.mono ?_
  rintro e w10 ⟨rfl, hd, ht⟩
  clear hE
  have HCA1 := Lib.hid (HCA.out.turn ht HDN.out)
  replace HDN := Lib.hid (ht.apart (fun b hb => HCA.out.lt b hb) HDN.out)
  replace HCA := HCA1
  clear HCA1
  have HUP0 := HUP
  replace HUP := Lib.hid (ht.up (fun b hb => HUP.out b hb) (Nat.le_trans HS1.out HC.out.size))
  replace HC := Lib.hid (HC.out.trans (ht.below (fun b hb => HUP0.out b hb) (Nat.le_trans HS1.out HC.out.size)))
  replace HD := Lib.hid hd
  clear k0 k1 k2 k3 k4 ht hd HUP0
  obtain ⟨k0, k1, k2, k3, k4⟩ := geo_low HGE.out HC.out
  have hRE := Retire_any HG.out HD.out 0 0
  rw [off_retire 0 0 HS2.out.1, HGD.out] at hRE
  go_wp2_with fail
  refine hRE.mono ?_
  rintro e w11 ⟨rfl, hd, ht⟩
  clear hRE
  have HCA1 := Lib.hid (HCA.out.turn ht HDN.out)
  replace HDN := Lib.hid (ht.apart (fun b hb => HCA.out.lt b hb) HDN.out)
  replace HCA := HCA1
  clear HCA1
  have HUP0 := HUP
  replace HUP := Lib.hid (ht.up (fun b hb => HUP.out b hb) (Nat.le_trans HS1.out HC.out.size))
  replace HC := Lib.hid (HC.out.trans (ht.below (fun b hb => HUP0.out b hb) (Nat.le_trans HS1.out HC.out.size)))
  replace HD := Lib.hid hd
  clear k0 k1 k2 k3 k4 ht hd HUP0
  obtain ⟨k0, k1, k2, k3, k4⟩ := geo_low HGE.out HC.out
  have hP := Program_any HG.out HD.out 0 0 g A1 A2 f f c1 c2 (dats 99 f) (oobs 99 false f) HCA.out HDN.out hc1 (by rw [HS2.out.2.2.2]; omega) (by rw [HS2.out.2.2.2]; omega)
  rw [off_program 0 0 g _ _ HS2.out.1, HGD.out] at hP
  go_wp2_with fail
  refine hP.mono ?_
  rintro e w12 ⟨rfl, P3, hg3, hd, ht⟩
  replace HGD : Hid (P3.g = gd) := Lib.hid hg3
  clear hP hg3
  have HCA1 := Lib.hid (HCA.out.turn ht HDN.out)
  replace HDN := Lib.hid (ht.apart (fun b hb => HCA.out.lt b hb) HDN.out)
  replace HCA := HCA1
  clear HCA1
  have HUP0 := HUP
  replace HUP := Lib.hid (ht.up (fun b hb => HUP.out b hb) (Nat.le_trans HS1.out HC.out.size))
  replace HC := Lib.hid (HC.out.trans (ht.below (fun b hb => HUP0.out b hb) (Nat.le_trans HS1.out HC.out.size)))
  replace HD := Lib.hid hd
  clear k0 k1 k2 k3 k4 ht hd HUP0
  obtain ⟨k0, k1, k2, k3, k4⟩ := geo_low HGE.out HC.out
  have hNX := Next_any HG.out HD.out 0 0
  rw [show st2.next G 0 0 = st2.nx (blk G 0 0) from if_pos (has0 HG.out), HS2.out.2.1, HGD.out] at hNX
  have hwg : wrap64 (g + 1) = g + 1 := wrap_is (by omega) (by omega)
  have hwk : IntKind.i64.wrap (g + 1) = g + 1 := kwrap_is (by omega) (by omega)
  go_wp2_with fail
  refine hNX.mono ?_
  rintro e w13 ⟨rfl, hb⟩
  clear hNX
  replace HCA := Lib.hid (HCA.out.below hb)
  replace HD := Lib.hid (HD.out.below hb)
  replace HC := Lib.hid (HC.out.trans (hb.mono (Nat.le_trans HS1.out HC.out.size)))
  clear k0 k1 k2 k3 k4 hb
  obtain ⟨k0, k1, k2, k3, k4⟩ := geo_low HGE.out HC.out
  have hPW := Power_any HD.out
  rw [HGD.out] at hPW
  go_wp2_with fail
  refine hPW.mono ?_
  rintro e w14 ⟨rfl, hd, ht⟩
  clear hPW
  have HCA1 := Lib.hid (HCA.out.turn ht HDN.out)
  replace HDN := Lib.hid (ht.apart (fun b hb => HCA.out.lt b hb) HDN.out)
  replace HCA := HCA1
  clear HCA1
  have HUP0 := HUP
  replace HUP := Lib.hid (ht.up (fun b hb => HUP.out b hb) (Nat.le_trans HS1.out HC.out.size))
  replace HC := Lib.hid (HC.out.trans (ht.below (fun b hb => HUP0.out b hb) (Nat.le_trans HS1.out HC.out.size)))
  replace HD := Lib.hid hd
  clear k0 k1 k2 k3 k4 ht hd HUP0
  obtain ⟨k0, k1, k2, k3, k4⟩ := geo_low HGE.out HC.out
  have hsb : 1 ≤ G.s ∧ G.s ≤ 4 := HG.out.may.2.2.2.2.2.2.2.2
  have hws : wrap64 (G.s + 1) = G.s + 1 := wrap_is (by omega) (by omega)
  have hne : ¬ G.s + 1 = 0 := by omega
  have hyb := y.toNat_lt
  obtain ⟨kp, hkp⟩ : ∃ kp : Nat, (y.toNat : Int) / 4 % (G.s + 1) = (kp : Int) := ⟨((y.toNat : Int) / 4 % (G.s + 1)).toNat, by have := Int.emod_nonneg ((y.toNat : Int) / 4) (show G.s + 1 ≠ 0 by omega); omega⟩
  have hkb : (kp : Int) ≤ G.s := by have := Int.emod_lt_of_pos ((y.toNat : Int) / 4) (show 0 < G.s + 1 by omega); omega
  have HKP := Lib.hid hkp
  have hwk2 : wrap64 ((y.toNat : Int) / 4) = (y.toNat : Int) / 4 := wrap_is (by omega) (by omega)
  clear hyb hkp hwg hwk HN0 HR0 HOPS HNM
  go_wp2_with fail
  rw [HKP.out]
  clear k0 k1 k2 k3 k4
  have HRD : Hid (∀ k : Nat, (k : Int) < G.s → St.reads G { st2 with off := false } (a + k) = if k < kp then ((dats 99 (few G.s)).getD k [], (oobs 99 false (few G.s)).getD k [], 0) else ([], [], 6)) := Lib.hid (fun k hk => by
    have hp : Geom.there G.U G.k G.p G.s 0 0 g k := ⟨by omega, (has0 HG.out).2.1, by omega, (has0 HG.out).2.2.2, by omega, by omega, by omega, hk⟩
    have ha : a + k = adr G 0 0 g k := by rw [HAD.out]; unfold adr; omega
    have hbd := adr_bd HG.out hp
    unfold St.reads
    rw [if_neg (by simp), ha, if_neg (fun h => h hbd)]
    show (match st2.rd (adr G 0 0 g k) with | none => (([] : List UInt8), ([] : List UInt8), (6 : Int)) | some (x, y) => (x, y, 0)) = _
    rw [HS2.out.2.2.1, lay_else HG.out (has0 HG.out) (by omega) (by omega) (m := ((y.toNat : Int) / 4 % (G.s + 1)).toNat) (by rw [HKP.out]; omega) hp, HKP.out]
    by_cases hkk : k < kp
    · rw [if_pos ⟨rfl, rfl, rfl, by omega⟩, if_pos hkk, Int.toNat_natCast]
    · rw [if_neg (by omega), if_neg hkk, HINV.out.2 0 0 g k hp (by rw [← HGN.out]; omega)])
  go_loopw [23] (fun i wr => ∃ k : Nat, (k : Int) ≤ G.s ∧ i = .int .i64 k ∧ Below w14.heap.size w14 wr) (fun i _ => (G.s - intOf i).toNat)
  case atStart => exact ⟨0, by omega, rfl, Below.refl _ _⟩
  case round =>
    obtain ⟨k, hk, rfl, hb⟩ := hrel
    have HBW := Lib.hid hb
    clear hb
    have HCW := Lib.hid (HC.out.trans (HBW.out.mono (Nat.le_trans HS1.out HC.out.size)))
    obtain ⟨k0, k1, k2, k3, k4⟩ := geo_low HGE.out HCW.out
    by_cases hlt : (k : Int) < G.s
    · have hR := Read_any HG.out (HD.out.below HBW.out) (a + k)
      rw [HRD.out k hlt, HGD.out] at hR
      have hab := Geom.parts_bd HG.out (show Geom.there G.U G.k G.p G.s 0 0 g k from ⟨by omega, (has0 HG.out).2.1, by omega, (has0 HG.out).2.2.2, by omega, by omega, by omega, hlt⟩)
      have hwa : wrap64 (a + k) = a + k := by
        have e : a + k = 0 * G.L + g * G.R + 0 * G.s + k := by rw [HAD.out]; unfold adr; omega
        exact wrap_is (by omega) (by omega)
      clear hab
      by_cases hkk : k < kp
      · rw [if_pos hkk] at hR
        have HR := Lib.hid hR
        clear hR
        go_wp2_with fail
        refine HR.out.mono ?_
        rintro e w15 ⟨v5, v6, rfl, ho5, ho6, hb⟩
        obtain ⟨A5, c5, rfl, hr5⟩ := ho5.reads
        obtain ⟨A6, c6, rfl, hr6⟩ := ho6.reads
        simp only at hr5 hr6 ⊢
        have HCM := HCA.out.below (HBW.out.trans (hb.mono HBW.out.size))
        have hkf : k < f := by have := HCA.out; rw [HF.out]; exact few_lt hlt hsb
        obtain ⟨b1, o1, B1, n1, e1, xs, rfl, _, hc1, hn1, hl1, hx1⟩ := HCM.dat.at_ hkf
        obtain ⟨b2, o2, B2, n2, e2, ys, rfl, _, hc2, hn2, hl2, hx2⟩ := HCM.oob.at_ hkf
        have e5 : (dats 99 (few G.s)).getD k [] = xs := by rw [List.getD_eq_getElem?_getD, ← HF.out, hx1]; rfl
        have e6 : (oobs 99 false (few G.s)).getD k [] = ys := by rw [List.getD_eq_getElem?_getD, ← HF.out, hx2]; rfl
        rw [e5] at hr5 ⊢
        rw [e6] at hr6 ⊢
        have hs1 := run_strs (P := Try.prog) w15 47 9 5 Try.underlying47 Try.underlying5 Try.underlying9 (c := c5) hr5
        have hs2 := run_strs (P := Try.prog) w15 47 9 5 Try.underlying47 Try.underlying5 Try.underlying9 (c := c6) hr6
        have hs3 := run_strs (P := Try.prog) w15 47 9 5 Try.underlying47 Try.underlying5 Try.underlying9 (c := e1) (hl1.bytes (B := w15.heap.size) (fun b hb => HCM.lt b hb))
        have hs4 := run_strs (P := Try.prog) w15 47 9 5 Try.underlying47 Try.underlying5 Try.underlying9 (c := e2) (hl2.bytes (B := w15.heap.size) (fun b hb => HCM.lt b hb))
        have hq1 := str_eq (rfl : xs = xs)
        have hq2 := str_eq (rfl : ys = ys)
        replace HBW := Lib.hid (HBW.out.trans (hb.mono HBW.out.size))
        have hki : decide ((k : Int) < (kp : Int)) = true := by simpa using hkk
        have hkj : decide (k < kp) = true := by simpa using hkk
        have hkf2 : (k : Int) < (f : Int) := by omega
        clear ho5 ho6 hr5 hr6 hb hl1 hl2 hx1 hx2 e5 e6 HR k0 k1 k2 k3 k4 HCM HCW HRD
        go_wp2
        go_quiet (fail)
        go_wp2
        go_roundw
        case rel => exact ⟨k + 1, by omega, by go_num, below_draws HBW.out _⟩
        case measure => simp [intOf]; omega
      · rw [if_neg hkk] at hR
        have HR := Lib.hid hR
        clear hR
        go_wp2_with fail
        refine HR.out.mono ?_
        rintro e w15 ⟨v5, v6, rfl, ho5, ho6, hb⟩
        obtain ⟨A5, c5, rfl, hr5⟩ := ho5.reads
        obtain ⟨A6, c6, rfl, hr6⟩ := ho6.reads
        simp only at hr5 hr6 ⊢
        replace HBW := Lib.hid (HBW.out.trans (hb.mono HBW.out.size))
        have hki : decide ((k : Int) < (kp : Int)) = false := by simp; omega
        have hkj : decide (k < kp) = false := by simpa using hkk
        clear ho5 ho6 hr5 hr6 hb HR k0 k1 k2 k3 k4 HCW HRD
        go_wp2
        go_quiet (fail)
        go_wp2
        go_roundw
        case rel => exact ⟨k + 1, by omega, by go_num, below_draws HBW.out _⟩
        case measure => simp [intOf]; omega
    · go_wp2
      go_ret
      exact ⟨rfl, HB.out.trans (HCW.out.mono (Nat.le_succ _))⟩

theorem own : ownKnob Try.prog.godebug = none := by kernel_rfl
theorem laid : laidOutB Try.prog = true := by kernel_rfl

set_option maxRecDepth 100000 in
theorem lifted (os : Os) (started : os.Started) (H : Type) (enc : TypeId × Value → H) :
    ReturnsInHanded {} Try.checked os 7 .any (Rows.nandTearsSpec.pre6 enc Try.prog Try.f7 Rows.nandTearsRow.domain false) (Rows.nandTearsSpec.post enc Try.prog Try.f7 false true false false) := by
  refine returnsInHanded_of_change (C := Try.checked) own started (by kernel_rfl) Try.func7
    (ChangeSpec.witness6 (enc := enc) (C := Try.checked) false ⟨#[], #[.agg #[.int .i64 0, .int .i64 0, .int .i64 0, .int .i64 0, .int .i64 0], .slice none 0 0, .int .u8 0], []⟩ 8 (by kernel_rfl) (by kernel_rfl) (by kernel_rfl) (by kernel_rfl)) ?_
  intro W base args ds gs before hval0 hW _ _
  have hval : ∀ (j : Nat) t v, Try.f7.params[j]? = some t → args[j]? = some v → Value.okWide Try.prog W .any base t v := hval0
  have hW' := hW
  obtain ⟨p, q, hA0, hV, rfl, hfz, hnd⟩ := hW
  have hA : DataW.TrodAll enc Try.prog W 0 (fun _ => true) true Try.f7.params.toList args.toList ds p := hA0
  rw [Try.params7] at hA hval
  obtain ⟨v0, v1, v2, d0, d1, d2, p0, p1, p2, rfl, rfl, rfl, h0, h1, h2⟩ := trodAll_three hA
  obtain ⟨c0, l0, k0, q0, s0, rfl⟩ := open_geo Try.underlying23 rfl (by kernel_rfl) (by kernel_rfl) (hval 0 23 v0 rfl rfl) h0
  obtain ⟨A1, n1, c1, rfl, hnc1, hcm1, hr1⟩ := NandOps.open_ops (hval 1 45 v1 rfl rfl) h1
  obtain ⟨a2, rfl, rfl, rfl, wf2⟩ := open_int Try.underlying5 (hval 2 5 v2 rfl rfl) h2
  have hb2 : 0 ≤ a2 ∧ a2 ≤ 255 := by simpa [Lit.wf, IntKind.min, IntKind.max, IntKind.signed, IntKind.bits] using wf2
  refine (walk c0 l0 k0 q0 s0 A1 n1 c1 a2 W hnc1 hcm1 hr1 hb2.1 hb2.2).mono fun e W' ⟨he, hb⟩ => ?_
  subst he
  exact ⟨_, rfl, Law.post laid (by kernel_rfl) (by kernel_rfl) Try.underlying4 rfl hW' rfl hb⟩

theorem proved : Rows.NandTearsSaid :=
  OpenClaim.holds_of_wide 7 Try.f7 rfl rfl rfl rfl rfl rfl rfl ⟨rfl, rfl, rfl, rfl, rfl⟩ rfl rfl rfl rfl rfl (by kernel_rfl) Try.func7 (by kernel_rfl)
    (of_decide_eq_true (by kernel_rfl)) (by unfold Func.isWrapper; first | (rw [if_pos (by decide +kernel)]; kernel_rfl) | (rw [if_neg (by decide +kernel)]; exact ⟨rfl, rfl⟩))
    (fun os started H enc _ => lifted os started H enc)

end Go.Proofs.Ytomhmoihkbmhiaa.nandTears
