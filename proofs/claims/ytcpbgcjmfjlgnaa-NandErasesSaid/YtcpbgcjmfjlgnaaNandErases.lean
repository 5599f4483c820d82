/-
  NandErases holds: behind an erasing a block's sectors can't be read, its wear is one more, and it takes pages from the first one on, if that was good; for every geometry, all ops and every byte. No condition.
-/
import Derived.Test.YtcpbgcjmfjlgnaaNandBegun
import Derived.Test.YtcpbgcjmfjlgnaaLawKit
import Derived.Test.YtcpbgcjmfjlgnaaStructs
import Derived.OpenShut
namespace Go.Proofs.Ytcpbgcjmfjlgnaa.nandErases
open Go.RowKit Go.ChangeShapes Go.WideShapes Nand NandPkg NandLaw NandOps
set_option maxRecDepth 4000


theorem geo_low {w wr : World} {b : Nat} {c l k p s : Int} (h : Geo w b c l k p s) (hb : Below (b + 1) w wr) : Geo wr b c l k p s :=
  ⟨(hb.cell (p := ⟨b, 0, none⟩) (Nat.lt_succ_self _)).trans h.1, (hb.cell (p := ⟨b, 1, none⟩) (Nat.lt_succ_self _)).trans h.2.1, (hb.cell (p := ⟨b, 2, none⟩) (Nat.lt_succ_self _)).trans h.2.2.1, (hb.cell (p := ⟨b, 3, none⟩) (Nat.lt_succ_self _)).trans h.2.2.2.1, (hb.cell (p := ⟨b, 4, none⟩) (Nat.lt_succ_self _)).trans h.2.2.2.2⟩

theorem has0 {G : Shape} (h : G.Ok) : has G 0 0 := ⟨by omega, by have := h.u0; omega, by omega, by have := h.may.2.2.2.2.1; omega⟩

theorem ops_more {w w' : World} {B B' : Nat} {A : Option Addr} {n : Nat} (h : Ops w B A n) (hk : Below B w w') (hB : B ≤ B') : Ops w' B' A n := fun i hi => by
  obtain ⟨b, off, x0, x1, x2, x3, x4, odd, xs, Ap, np, cp, e, c0, c1, c2, c3, c4, c5, c6, h7, h8, h9, h10⟩ := h.keep hk i hi
  exact ⟨b, off, x0, x1, x2, x3, x4, odd, xs, Ap, np, cp, e, c0, c1, c2, c3, c4, c5, c6, Nat.lt_of_lt_of_le h7 hB, h8, h9, bytes_more h10 hB⟩

/-- What is good. -/
def fine (x : UInt8) : Bool := decide (x.toNat % 4 = 0 ∨ x.toNat % 4 = 3)

theorem says_one (x : UInt8) : Plan.says [x] = Plan.out (x.toNat : Int) := rfl

theorem says_fine (x : UInt8) : (fine x = true → Plan.says [x] = 0) ∧ (fine x = false → Plan.says [x] = 1 ∨ Plan.says [x] = 2) := by
  rw [says_one]
  unfold fine Plan.out
  constructor
  · intro h
    have h := of_decide_eq_true h
    split
    · rfl
    · omega
  · intro h
    have h := of_decide_eq_false h
    split
    · omega
    · omega

theorem read_none {G : Shape} {st : St} {a : Int} (h1 : st.off = false) (h2 : 0 ≤ a ∧ a < G.N) (h3 : st.rd a = none) : st.reads G a = ([], [], 6) := by
  unfold St.reads
  rw [if_neg (by rw [h1]; simp), if_neg (fun h => h h2), h3]

/-- A block is erased, by one byte. -/
theorem erase_one {G : Shape} (hG : G.Ok) {st : St} (x : UInt8) (h1 : st.off = false) (h2 : st.rt (blk G 0 0) = false) (h3 : st.plan = [x]) (h4 : st.many = 0) :
    ∃ er st2, st.erase G 0 0 = (er, st2) ∧ (er == 0) = fine x ∧ st2.rd = wipe G 0 0 st.rd ∧ st2.rt = st.rt ∧ st2.wr (blk G 0 0) = wrap64 (st.wr (blk G 0 0) + 1) ∧ st2.plan = [] ∧ st2.many = 1 ∧ st2.nx (blk G 0 0) = (if fine x = true then 0 else G.p) := by
  unfold St.erase
  rw [if_neg (by rw [h1]; simp), if_neg (fun h => h (has0 hG)), if_neg (by rw [h2]; simp), h3, h4]
  cases hf : fine x with
  | true =>
    have e := (says_fine x).1 hf
    rw [if_neg (by omega), if_neg (by omega)]
    exact ⟨_, _, rfl, rfl, rfl, rfl, upd_same _ _ _, rfl, rfl, upd_same _ _ _⟩
  | false =>
    rcases (says_fine x).2 hf with e | e
    · rw [if_pos e]
      exact ⟨_, _, rfl, rfl, rfl, rfl, upd_same _ _ _, rfl, rfl, upd_same _ _ _⟩
    · rw [if_neg (by omega), if_pos e]
      exact ⟨_, _, rfl, rfl, rfl, rfl, upd_same _ _ _, rfl, rfl, upd_same _ _ _⟩

/-- Its first page is programmed. -/
theorem program_one {G : Shape} (hG : G.Ok) {st : St} (f : Bool) (n : Int) (h1 : st.off = false) (h2 : st.rt (blk G 0 0) = false) (h3 : st.plan = []) (h5 : st.nx (blk G 0 0) = (if f = true then 0 else G.p)) :
    ∃ er st2, st.program G 0 0 0 (dats n (few G.s)) (oobs n false (few G.s)) = (er, st2) ∧ (er == 0) = f ∧ st2.wr = st.wr := by
  have hp : 1 ≤ G.p := hG.may.2.2.2.2.2.2.1
  have hb : mayBe G 0 0 0 (dats n (few G.s)) (oobs n false (few G.s)) := ⟨has0 hG, by omega, by omega, fit_dats hG n, fit_oobs hG n⟩
  cases f with
  | true =>
    rw [program_good h1 (may_good hb h2 (by rw [h5]; rfl)) (by rw [h3]; rfl)]
    exact ⟨_, _, rfl, rfl, rfl⟩
  | false =>
    have hm : st.may G 0 0 0 (dats n (few G.s)) (oobs n false (few G.s)) = 7 := by
      unfold St.may
      rw [if_neg (fun h => h hb), if_neg (by rw [h2]; simp), if_pos (by rw [h5]; simp; omega)]
    unfold St.program
    rw [if_neg (by rw [h1]; simp), if_pos (by rw [hm]; decide), hm]
    exact ⟨_, _, rfl, rfl, rfl⟩

set_option maxHeartbeats 3200000 in
theorem walk (gc gl gk gp gs : Int) (A : Option Addr) (n c : Nat) (x : Int) (w : World) (hnc : n ≤ c) (hcm : c ≤ maxLen) (hops : Ops w w.heap.size A n) (hx0 : 0 ≤ x) (hx1 : x ≤ 255) :
    Calls Try.prog 8 #[.agg #[.int .i64 gc, .int .i64 gl, .int .i64 gk, .int .i64 gp, .int .i64 gs], .slice A n c, .int .u8 x] w fun e w' => e = .returned (.bool true) ∧ Below w.heap.size w w' := by
  obtain ⟨y, rfl⟩ : ∃ y : UInt8, x = (y.toNat : Int) := ⟨UInt8.ofNat x.toNat, by rw [UInt8.toNat_ofNat']; omega⟩
  have HB := Lib.hid ((Below.refl w.heap.size w).alloc (Nat.le_refl _) (.cells #[.int .i64 gc, .int .i64 gl, .int .i64 gk, .int .i64 gp, .int .i64 gs] 23))
  have HGE := Lib.hid (geo_new w 23 gc gl gk gp gs)
  have HOPS := Lib.hid hops
  have hnm : n ≤ maxLen := Nat.le_trans hnc hcm
  have HNM := Lib.hid hnm
  clear hops hnc hcm hnm
  by_cases hok : Geom.ok gc gl gk gp gs
  rotate_left
  · have H1 := Lib.hid (fun w V => begun_bad (w := w) gc gl gk gp gs hok V)
    have H2 := Lib.hid (fun w => rright_bad hok w)
    clear hok
    go_enter Try.func8, Try.ntmps8
    go_wp2_with fail
    refine (awake_any _).mono ?_
    rintro e w1 ⟨rfl, hb⟩
    replace HB := Lib.hid (below_then HB.out hb)
    replace HGE := Lib.hid (geo_keep HGE.out hb)
    obtain ⟨k0, k1, k2, k3, k4⟩ := HGE.out
    clear hb
    go_wp2_with fail
    refine (H1.out _ _).mono ?_
    rintro e w2 ⟨rfl, hb⟩
    replace HB := Lib.hid (below_then HB.out hb)
    replace HGE := Lib.hid (geo_keep HGE.out hb)
    clear k0 k1 k2 k3 k4 hb
    obtain ⟨k0, k1, k2, k3, k4⟩ := HGE.out
    go_wp2_with fail
    refine (H2.out _).mono ?_
    rintro e w3 ⟨rfl, hb⟩
    replace HB := Lib.hid (below_then HB.out hb)
    clear hb k0 k1 k2 k3 k4
    go_wp2
    go_ret
    exact ⟨rfl, HB.out⟩
  obtain ⟨G, rfl, rfl, rfl, rfl, rfl, hG⟩ : ∃ G : Shape, gc = G.c ∧ gl = G.l ∧ gk = G.k ∧ gp = G.p ∧ gs = G.s ∧ G.Ok := ⟨⟨gc, gl, gk, gp, gs, _, _, _, _⟩, rfl, rfl, rfl, rfl, rfl, Geom.sizes hok⟩
  have HG := Lib.hid hG
  clear hok hG
  go_enter Try.func8, Try.ntmps8
  go_wp2_with fail
  refine (awake_any _).mono ?_
  rintro e w1 ⟨rfl, hb⟩
  replace HB := Lib.hid (below_then HB.out hb)
  replace HGE := Lib.hid (geo_keep HGE.out hb)
  obtain ⟨k0, k1, k2, k3, k4⟩ := HGE.out
  clear hb
  have HS1 : Hid (w.heap.size + 1 ≤ w1.heap.size) := Lib.hid (World.block_lt_of_cell? _ _ k0)
  go_wp2_with fail
  refine (begun_any HG.out A n c HNM.out (ops_more HOPS.out HB.out HB.out.size)).mono ?_
  rintro e w2 ⟨P, st, rfl, hd, hoff, hplan, hmany, hinv, hown, hb⟩
  have HUP : Hid (∀ b, P.own b → w.heap.size + 1 ≤ b) := Lib.hid (fun b hb => Nat.le_trans HS1.out (hown b hb))
  have HD := Lib.hid hd
  have HINV := Lib.hid hinv
  have HST := Lib.hid (And.intro hoff (And.intro hplan hmany))
  have HC : Hid (Below (w.heap.size + 1) w1 w2) := Lib.hid (hb.mono HS1.out)
  obtain ⟨gd, hgd⟩ : ∃ gd, gd = P.g := ⟨_, rfl⟩
  rw [← hgd]
  have HGD := Lib.hid hgd.symm
  clear hd hoff hplan hmany hinv hown hgd k0 k1 k2 k3 k4 hb
  obtain ⟨k0, k1, k2, k3, k4⟩ := geo_low HGE.out HC.out
  have hr0 := Retired_any HG.out HD.out 0 0
  rw [show st.retired G 0 0 = st.rt (blk G 0 0) from if_pos (has0 HG.out), HGD.out] at hr0
  have HR0 := Lib.hid hr0
  clear hr0
  cases hrt : st.rt (blk G 0 0) with
  | true =>
    rw [hrt] at HR0
    clear hrt
    go_wp2_with fail
    refine HR0.out.mono ?_
    rintro e w3 ⟨rfl, hb⟩
    replace HD := Lib.hid (HD.out.below hb)
    replace HC := Lib.hid (HC.out.trans (hb.mono (Nat.le_trans HS1.out HC.out.size)))
    clear k0 k1 k2 k3 k4 hb
    obtain ⟨k0, k1, k2, k3, k4⟩ := geo_low HGE.out HC.out
    clear k0 k1 k2 k3 k4
    go_wp2
    go_ret
    exact ⟨rfl, HB.out.trans (HC.out.mono (Nat.le_succ _))⟩
  | false =>
    rw [hrt] at HR0
    have HRT := Lib.hid hrt
    clear hrt
    go_wp2_with fail
    refine HR0.out.mono ?_
    rintro e w3 ⟨rfl, hb⟩
    replace HD := Lib.hid (HD.out.below hb)
    replace HC := Lib.hid (HC.out.trans (hb.mono (Nat.le_trans HS1.out HC.out.size)))
    clear k0 k1 k2 k3 k4 hb
    obtain ⟨k0, k1, k2, k3, k4⟩ := geo_low HGE.out HC.out
    obtain ⟨we, hwe⟩ : ∃ we, we = st.wr (blk G 0 0) := ⟨_, rfl⟩
    have HWE := Lib.hid hwe
    have hw0 := Wear_any HG.out HD.out 0 0
    rw [show st.wear G 0 0 = st.wr (blk G 0 0) from if_pos (has0 HG.out), ← hwe, HGD.out] at hw0
    clear hwe
    go_wp2_with fail
    refine hw0.mono ?_
    rintro e w4 ⟨rfl, hb⟩
    clear hw0
    replace HD := Lib.hid (HD.out.below hb)
    replace HC := Lib.hid (HC.out.trans (hb.mono (Nat.le_trans HS1.out HC.out.size)))
    clear k0 k1 k2 k3 k4 hb
    obtain ⟨k0, k1, k2, k3, k4⟩ := geo_low HGE.out HC.out
    go_wp2_with fail
    have hbx : Below w4.heap.size w4 (w4.alloc (.cells #[.int .u8 (y.toNat : Int)] 5)) := (Below.refl _ _).alloc (Nat.le_refl _) _
    have hpl := Plan_any (HD.out.below hbx) (some ⟨w4.heap.size, 0, none⟩) 1 1 (w4.heap.size + 1) [y] (by omega) (bytes_new w4 [y] _ _ _ rfl) (by simp)
    rw [HGD.out] at hpl
    refine hpl.mono ?_
    rintro e w5 ⟨rfl, P', hg', hd, ht'⟩
    have ht := (Turn.of_below P.own hbx).trans ht'
    have hr1 : w.heap.size + 1 ≤ w4.heap.size := Nat.le_trans HS1.out HC.out.size
    replace HGD : Hid (P'.g = gd) := Lib.hid hg'
    clear ht' hg' hpl hbx
    have HUP0 := HUP
    replace HUP := Lib.hid (ht.up (fun b hb => HUP.out b hb) (Nat.le_trans HS1.out HC.out.size))
    replace HC := Lib.hid (HC.out.trans (ht.below (fun b hb => HUP0.out b hb) (Nat.le_trans HS1.out HC.out.size)))
    replace HD := Lib.hid hd
    clear k0 k1 k2 k3 k4 ht hd HUP0
    obtain ⟨k0, k1, k2, k3, k4⟩ := geo_low HGE.out HC.out
    obtain ⟨er, st2, hE, h1, h2, h3, h4, h5, h6, h7⟩ := erase_one HG.out (st := { st with plan := [y], many := 0 }) y HST.out.1 HRT.out rfl rfl
    have hER := Erase_any HG.out HD.out 0 0 (by show (0 : Int) ≤ 0; omega) (by show (0 : Int) < _; omega)
    rw [hE, HGD.out] at hER
    have HEF := Lib.hid h1
    have HS2 := Lib.hid (And.intro h2 (And.intro h3 (And.intro h4 (And.intro h5 (And.intro h6 h7)))))
    clear h1 h2 h3 h4 h5 h6 h7 hE
    go_wp2_with fail
    refine hER.mono ?_
    rintro e w6 ⟨rfl, hd, ht⟩
    clear hER
    have HUP0 := HUP
    replace HUP := Lib.hid (ht.up (fun b hb => HUP.out b hb) (Nat.le_trans HS1.out HC.out.size))
    replace HC := Lib.hid (HC.out.trans (ht.below (fun b hb => HUP0.out b hb) (Nat.le_trans HS1.out HC.out.size)))
    replace HD := Lib.hid hd
    clear k0 k1 k2 k3 k4 ht hd HUP0
    obtain ⟨k0, k1, k2, k3, k4⟩ := geo_low HGE.out HC.out
    have hPW := Power_any HD.out
    rw [HGD.out] at hPW
    go_wp2_with fail
    refine hPW.mono ?_
    rintro e w7 ⟨rfl, hd, ht⟩
    clear hPW
    have HUP0 := HUP
    replace HUP := Lib.hid (ht.up (fun b hb => HUP.out b hb) (Nat.le_trans HS1.out HC.out.size))
    replace HC := Lib.hid (HC.out.trans (ht.below (fun b hb => HUP0.out b hb) (Nat.le_trans HS1.out HC.out.size)))
    replace HD := Lib.hid hd
    clear k0 k1 k2 k3 k4 ht hd HUP0
    obtain ⟨k0, k1, k2, k3, k4⟩ := geo_low HGE.out HC.out
    have HLO : Hid (Dev G w7 P' { st2 with off := false } ∧ Below (w.heap.size + 1) w1 w7) := Lib.hid ⟨HD.out, HC.out⟩
    clear HD HC k0 k1 k2 k3 k4 HINV
    obtain ⟨st3, hst3⟩ : ∃ st3 : St, st3 = { st2 with off := false } := ⟨_, rfl⟩
    have HS3 : Hid (st3.off = false ∧ st3.rd = wipe G 0 0 st.rd ∧ st3.rt (blk G 0 0) = false ∧ st3.wr (blk G 0 0) = wrap64 (we + 1) ∧ st3.plan = [] ∧ st3.many = 1 ∧ st3.nx (blk G 0 0) = (if fine y = true then 0 else G.p)) := Lib.hid (by
      obtain ⟨h2, h3, h4, h5, h6, h7⟩ := HS2.out
      rw [hst3]
      exact ⟨rfl, h2, by show st2.rt _ = false; rw [h3]; exact HRT.out, by show st2.wr _ = _; rw [h4, HWE.out], h5, h6, h7⟩)
    rw [← hst3] at HLO
    have hpp : 1 ≤ G.p ∧ G.p ≤ 32 := ⟨HG.out.may.2.2.2.2.2.2.1, HG.out.may.2.2.2.2.2.2.2.1⟩
    have HRD : Hid (∀ (q : Nat), (q : Int) < G.p → ∃ a : Int, (∀ wx, Calls Try.prog 28 #[.agg #[.int .i64 G.c, .int .i64 G.l, .int .i64 G.k, .int .i64 G.p, .int .i64 G.s], .agg #[.int .i64 0, .int .i64 0, .int .i64 (q : Int), .int .i64 0]] wx fun e w' => e = .returned (.tuple #[.int .i64 a, .int .i64 0]) ∧ Below wx.heap.size wx w') ∧ st3.reads G a = ([], [], 6)) := Lib.hid (fun q hq => by
      have hp : Geom.there G.U G.k G.p G.s 0 0 (q : Int) 0 := ⟨by omega, (has0 HG.out).2.1, by omega, (has0 HG.out).2.2.2, by omega, hq, by omega, HG.out.may.2.2.2.2.2.2.2.2.1⟩
      refine ⟨adr G 0 0 q 0, fun wx => num_in HG.out 0 0 q 0 (adr G 0 0 q 0) hp rfl wx, read_none HS3.out.1 (adr_bd HG.out hp) ?_⟩
      rw [HS3.out.2.1, wipe_at HG.out (has0 HG.out) hp, if_pos ⟨rfl, rfl⟩])
    clear hst3 HS2
    go_wp2
    go_loopw [12] (fun pv wr => ∃ q : Nat, pv = .int .i64 (q : Int) ∧ (q : Int) ≤ G.p ∧ Dev G wr P' st3 ∧ Below (w.heap.size + 1) w1 wr) (fun pv _ => (G.p - intOf pv).toNat)
    case atStart => exact ⟨0, rfl, by omega, HLO.out⟩
    case round =>
      clear HLO
      obtain ⟨q, rfl, hq, hd, hc⟩ := hrel
      have HD := Lib.hid hd
      have HC := Lib.hid hc
      clear hd hc
      obtain ⟨k0, k1, k2, k3, k4⟩ := geo_low HGE.out HC.out
      by_cases hqlt : (q : Int) < G.p
      · have dq : decide ((q : Int) < G.p) = true := by simpa using hqlt
        obtain ⟨a, hnum, hrd⟩ := HRD.out q hqlt
        go_wp2_with fail
        refine (hnum _).mono ?_
        rintro e w8 ⟨rfl, hb⟩
        clear hnum
        replace HD := Lib.hid (HD.out.below hb)
        replace HC := Lib.hid (HC.out.trans (hb.mono (Nat.le_trans HS1.out HC.out.size)))
        clear k0 k1 k2 k3 k4 hb
        obtain ⟨k0, k1, k2, k3, k4⟩ := geo_low HGE.out HC.out
        have hR := Read_any HG.out HD.out a
        rw [hrd, HGD.out] at hR
        go_wp2_with fail
        refine hR.mono ?_
        rintro e w9 ⟨v, v', rfl, _, _, hb⟩
        clear hR hrd
        replace HD := Lib.hid (HD.out.below hb)
        replace HC := Lib.hid (HC.out.trans (hb.mono (Nat.le_trans HS1.out HC.out.size)))
        clear k0 k1 k2 k3 k4 hb
        obtain ⟨k0, k1, k2, k3, k4⟩ := geo_low HGE.out HC.out
        clear k0 k1 k2 k3 k4
        go_wp2
        go_roundw
        case measure => simp [intOf]; omega
        case rel => exact ⟨q + 1, by go_num, by omega, HD.out, HC.out⟩
      · have dq : decide ((q : Int) < G.p) = false := by simpa using hqlt
        go_wp2_with fail
        refine (Sectors_any G.c G.l G.k G.p G.s 3 false wr).mono ?_
        rintro e w8 ⟨v1, v2, rfl, hs1, hs2, hb⟩
        obtain ⟨A1, c1, A2, c2, rfl, rfl, hc1, hcame⟩ := came_sect hs1 hs2
        have HDW := Lib.hid HD.out.lt
        clear hs1 hs2
        replace HD := Lib.hid (HD.out.below hb)
        replace HC := Lib.hid (HC.out.trans (hb.mono (Nat.le_trans HS1.out HC.out.size)))
        clear k0 k1 k2 k3 k4 hb
        obtain ⟨k0, k1, k2, k3, k4⟩ := geo_low HGE.out HC.out
        obtain ⟨fr, st4, hPR, h1, h2⟩ := program_one HG.out (st := st3) (fine y) 3 HS3.out.1 HS3.out.2.2.1 HS3.out.2.2.2.2.1 HS3.out.2.2.2.2.2.2
        have hP := Program_any HG.out HD.out 0 0 0 A1 A2 (few G.s) (few G.s) c1 c2 (dats 3 (few G.s)) (oobs 3 false (few G.s)) hcame (fun b hb2 ho => by have := HDW.out b ho; omega) hc1 (by rw [HS3.out.2.2.2.2.2.1]; omega) (by rw [HS3.out.2.2.2.2.2.1]; omega)
        rw [hPR, HGD.out] at hP
        have HPF := Lib.hid h1
        have HW4 : Hid (st4.wr (blk G 0 0) = wrap64 (we + 1)) := Lib.hid (by rw [h2]; exact HS3.out.2.2.2.1)
        clear h1 h2 hPR hcame HDW
        generalize few G.s = f at *
        go_wp2_with fail
        refine hP.mono ?_
        rintro e w9 ⟨rfl, P2, hg2, hd, ht⟩
        replace HGD : Hid (P2.g = gd) := Lib.hid hg2
        clear hP hg2
        have HUP0 := HUP
        replace HUP := Lib.hid (ht.up (fun b hb => HUP.out b hb) (Nat.le_trans HS1.out HC.out.size))
        replace HC := Lib.hid (HC.out.trans (ht.below (fun b hb => HUP0.out b hb) (Nat.le_trans HS1.out HC.out.size)))
        replace HD := Lib.hid hd
        clear k0 k1 k2 k3 k4 ht hd HUP0
        obtain ⟨k0, k1, k2, k3, k4⟩ := geo_low HGE.out HC.out
        have hWR := Wear_any HG.out HD.out 0 0
        rw [show st4.wear G 0 0 = st4.wr (blk G 0 0) from if_pos (has0 HG.out), HW4.out, HGD.out] at hWR
        have hcases : (fine y = true ∧ ((y.toNat : Int) % 4 == 0) = true) ∨ (fine y = true ∧ ((y.toNat : Int) % 4 == 0) = false ∧ ((y.toNat : Int) % 4 == 3) = true) ∨ (fine y = false ∧ ((y.toNat : Int) % 4 == 0) = false ∧ ((y.toNat : Int) % 4 == 3) = false) := by
          unfold fine
          simp
          omega
        have hw5 : IntKind.i64.wrap (we + 1) = wrap64 (we + 1) := IntWalk.i64_left _
        rcases hcases with ⟨hf, m0⟩ | ⟨hf, m0, m3⟩ | ⟨hf, m0, m3⟩
        · have hE := HEF.out
          have hF := HPF.out
          rw [hf] at hE hF
          have hE0 : er = 0 := by simpa using hE
          have hF0 : fr = 0 := by simpa using hF
          subst hE0 hF0
          clear hE hF hf
          go_wp2_with fail
          refine hWR.mono ?_
          rintro e w10 ⟨rfl, hb⟩
          replace HD := Lib.hid (HD.out.below hb)
          replace HC := Lib.hid (HC.out.trans (hb.mono (Nat.le_trans HS1.out HC.out.size)))
          clear k0 k1 k2 k3 k4 hb
          obtain ⟨k0, k1, k2, k3, k4⟩ := geo_low HGE.out HC.out
          clear k0 k1 k2 k3 k4
          go_wp2
          go_ret
          exact ⟨rfl, HB.out.trans (HC.out.mono (Nat.le_succ _))⟩

        · have hE := HEF.out
          have hF := HPF.out
          rw [hf] at hE hF
          have hE0 : er = 0 := by simpa using hE
          have hF0 : fr = 0 := by simpa using hF
          subst hE0 hF0
          clear hE hF hf
          go_wp2_with fail
          refine hWR.mono ?_
          rintro e w10 ⟨rfl, hb⟩
          replace HD := Lib.hid (HD.out.below hb)
          replace HC := Lib.hid (HC.out.trans (hb.mono (Nat.le_trans HS1.out HC.out.size)))
          clear k0 k1 k2 k3 k4 hb
          obtain ⟨k0, k1, k2, k3, k4⟩ := geo_low HGE.out HC.out
          clear k0 k1 k2 k3 k4
          go_wp2
          go_ret
          exact ⟨rfl, HB.out.trans (HC.out.mono (Nat.le_succ _))⟩

        · have hE := HEF.out
          have hF := HPF.out
          rw [hf] at hE hF
          have hE0 : ¬ er = 0 := by simpa using hE
          have hF0 : ¬ fr = 0 := by simpa using hF
          clear hE hF hf
          go_wp2_with fail
          refine hWR.mono ?_
          rintro e w10 ⟨rfl, hb⟩
          replace HD := Lib.hid (HD.out.below hb)
          replace HC := Lib.hid (HC.out.trans (hb.mono (Nat.le_trans HS1.out HC.out.size)))
          clear k0 k1 k2 k3 k4 hb
          obtain ⟨k0, k1, k2, k3, k4⟩ := geo_low HGE.out HC.out
          clear k0 k1 k2 k3 k4
          go_wp2
          go_ret
          exact ⟨by first | rfl | simp [hE0, hF0], HB.out.trans (HC.out.mono (Nat.le_succ _))⟩


theorem own : ownKnob Try.prog.godebug = none := by kernel_rfl
theorem laid : laidOutB Try.prog = true := by kernel_rfl

set_option maxRecDepth 100000 in
theorem lifted (os : Os) (started : os.Started) (H : Type) (enc : TypeId × Value → H) :
    ReturnsInHanded {} Try.checked os 8 .any (Rows.nandErasesSpec.pre6 enc Try.prog Try.f8 Rows.nandErasesRow.domain false) (Rows.nandErasesSpec.post enc Try.prog Try.f8 false true false false) := by
  refine returnsInHanded_of_change (C := Try.checked) own started (by kernel_rfl) Try.func8
    (ChangeSpec.witness6 (enc := enc) (C := Try.checked) false ⟨#[], #[.agg #[.int .i64 0, .int .i64 0, .int .i64 0, .int .i64 0, .int .i64 0], .slice none 0 0, .int .u8 0], []⟩ 8 (by kernel_rfl) (by kernel_rfl) (by kernel_rfl) (by kernel_rfl)) ?_
  intro W base args ds gs before hval0 hW _ _
  have hval : ∀ (j : Nat) t v, Try.f8.params[j]? = some t → args[j]? = some v → Value.okWide Try.prog W .any base t v := hval0
  have hW' := hW
  obtain ⟨p, q, hA0, hV, rfl, hfz, hnd⟩ := hW
  have hA : DataW.TrodAll enc Try.prog W 0 (fun _ => true) true Try.f8.params.toList args.toList ds p := hA0
  rw [Try.params8] at hA hval
  obtain ⟨v0, v1, v2, d0, d1, d2, p0, p1, p2, rfl, rfl, rfl, h0, h1, h2⟩ := trodAll_three hA
  obtain ⟨c0, l0, k0, q0, s0, rfl⟩ := open_geo Try.underlying23 rfl (by kernel_rfl) (by kernel_rfl) (hval 0 23 v0 rfl rfl) h0
  obtain ⟨A1, n1, c1, rfl, hnc1, hcm1, hr1⟩ := NandOps.open_ops (hval 1 45 v1 rfl rfl) h1
  obtain ⟨a2, rfl, rfl, rfl, wf2⟩ := open_int Try.underlying5 (hval 2 5 v2 rfl rfl) h2
  have hb2 : 0 ≤ a2 ∧ a2 ≤ 255 := by simpa [Lit.wf, IntKind.min, IntKind.max, IntKind.signed, IntKind.bits] using wf2
  refine (walk c0 l0 k0 q0 s0 A1 n1 c1 a2 W hnc1 hcm1 hr1 hb2.1 hb2.2).mono fun e W' ⟨he, hb⟩ => ?_
  subst he
  exact ⟨_, rfl, Law.post laid (by kernel_rfl) (by kernel_rfl) Try.underlying4 rfl hW' rfl hb⟩

theorem proved : Rows.NandErasesSaid :=
  OpenClaim.holds_of_wide 8 Try.f8 rfl rfl rfl rfl rfl rfl rfl ⟨rfl, rfl, rfl, rfl, rfl⟩ rfl rfl rfl rfl rfl (by kernel_rfl) Try.func8 (by kernel_rfl)
    (of_decide_eq_true (by kernel_rfl)) (by unfold Func.isWrapper; first | (rw [if_pos (by decide +kernel)]; kernel_rfl) | (rw [if_neg (by decide +kernel)]; exact ⟨rfl, rfl⟩))
    (fun os started H enc _ => lifted os started H enc)

end Go.Proofs.Ytcpbgcjmfjlgnaa.nandErases
