/-
  NandRefuses holds: what is refused changes nothing that can be seen but Wrong; for every geometry, all ops and every op. No condition.
-/
import Derived.Test.YtlmdlhfdacmcnaaNandLook
import Derived.Test.YtlmdlhfdacmcnaaNandBegun
import Derived.Test.YtlmdlhfdacmcnaaLawKit
import Derived.Test.YtlmdlhfdacmcnaaStructs
import Derived.OpenShut
import Derived.Deep.CutBlock
import Derived.Deep.DeepCutAuto
import Derived.Deep.RegionHeld3
namespace Go.Proofs.Ytlmdlhfdacmcnaa.nandRefuses
open Go.RowKit Go.ChangeShapes Go.WideShapes Nand NandPkg NandLaw NandOps
set_option maxRecDepth 4000

/-- A call that may be refused: it is, or it is good. -/
def Res (st : St) (er : Int) (st2 : St) : Prop := (er = 0 ∧ st2.wrong = st.wrong) ∨ ((er = 1 ∨ er = 10 ∨ er = 7) ∧ st2 = st.refused)

section
variable {G : Shape} {st : St}
theorem may_of (u b g : Int) (dat oob : List (List UInt8)) : st.may G u b g dat oob = 0 ∨ st.may G u b g dat oob = 1 ∨ st.may G u b g dat oob = 10 ∨ st.may G u b g dat oob = 7 := by
  unfold St.may
  split
  · exact .inr (.inl rfl)
  split
  · exact .inr (.inr (.inl rfl))
  split
  · exact .inr (.inr (.inr rfl))
  · exact .inl rfl

theorem res_program (h1 : st.off = false) (h3 : st.plan = []) (u b g : Int) (dat oob : List (List UInt8)) : Res st (st.program G u b g dat oob).1 (st.program G u b g dat oob).2 := by
  unfold St.program
  rw [if_neg (by rw [h1]; simp)]
  by_cases hm : st.may G u b g dat oob = 0
  · rw [if_neg (fun h => h hm), h3, if_neg (by decide), if_neg (by decide)]
    exact .inl ⟨rfl, rfl⟩
  · rw [if_pos hm]
    exact .inr ⟨(may_of u b g dat oob).resolve_left hm, rfl⟩

theorem res_erase (h1 : st.off = false) (h3 : st.plan = []) (u b : Int) : Res st (st.erase G u b).1 (st.erase G u b).2 := by
  unfold St.erase
  rw [if_neg (by rw [h1]; simp)]
  by_cases hh : has G u b
  · rw [if_neg (fun h => h hh)]
    by_cases hr : st.rt (blk G u b) = true
    · rw [if_pos hr]
      exact .inr ⟨.inr (.inl rfl), rfl⟩
    · rw [if_neg hr, h3, if_neg (by decide), if_neg (by decide)]
      exact .inl ⟨rfl, rfl⟩
  · rw [if_pos hh]
    exact .inr ⟨.inl rfl, rfl⟩

theorem res_retire (h1 : st.off = false) (u b : Int) : Res st (st.retire G u b).1 (st.retire G u b).2 := by
  unfold St.retire
  rw [if_neg (by rw [h1]; simp)]
  by_cases hh : has G u b
  · rw [if_neg (fun h => h hh)]
    exact .inl ⟨rfl, rfl⟩
  · rw [if_pos hh]
    exact .inr ⟨.inl rfl, rfl⟩

theorem lookR_refused (u : Int) (b : Nat) : lookR G st.refused u b = lookR G st u b := by
  induction b with
  | zero => rfl
  | succ b ih =>
    simp only [lookR, ih]
    rfl
theorem lookU_refused (m u : Nat) : lookU G st.refused m u = lookU G st m u := by
  induction u with
  | zero => rfl
  | succ u ih => simp only [lookU, ih, lookR_refused]
theorem lookS_refused (i : Nat) : lookS G st.refused i = lookS G st i := by
  induction i with
  | zero => rfl
  | succ i ih =>
    simp only [lookS, ih]
    rfl
theorem look_refused : lookL G st.refused = lookL G st := by
  unfold lookL
  rw [lookU_refused, lookS_refused]
end

theorem little_yes (gc gl gk gp gs : Int) (h1 : gk ≤ 8) (h2 : gp ≤ 4) (w : World) : Calls Try.prog 34 #[.agg #[.int .i64 gc, .int .i64 gl, .int .i64 gk, .int .i64 gp, .int .i64 gs]] w fun e w' => e = .returned (.bool true) ∧ Below w.heap.size w w' := by
  obtain ⟨k0, k1, k2, k3, k4⟩ := geo_new w 23 gc gl gk gp gs
  have HB := Lib.hid ((Below.refl w.heap.size w).alloc (Nat.le_refl _) (.cells #[.int .i64 gc, .int .i64 gl, .int .i64 gk, .int .i64 gp, .int .i64 gs] 23))
  have d1 : decide (gk ≤ 8) = true := by simpa using h1
  have d2 : decide (gp ≤ 4) = true := by simpa using h2
  go_enter Try.func34, Try.ntmps34
  go_wp2
  go_ret
  exact ⟨rfl, HB.out⟩

theorem little_no (gc gl gk gp gs : Int) (h : ¬ (gk ≤ 8 ∧ gp ≤ 4)) (w : World) : Calls Try.prog 34 #[.agg #[.int .i64 gc, .int .i64 gl, .int .i64 gk, .int .i64 gp, .int .i64 gs]] w fun e w' => e = .returned (.bool false) ∧ Below w.heap.size w w' := by
  obtain ⟨k0, k1, k2, k3, k4⟩ := geo_new w 23 gc gl gk gp gs
  have HB := Lib.hid ((Below.refl w.heap.size w).alloc (Nat.le_refl _) (.cells #[.int .i64 gc, .int .i64 gl, .int .i64 gk, .int .i64 gp, .int .i64 gs] 23))
  by_cases h1 : gk ≤ 8
  · have d1 : decide (gk ≤ 8) = true := by simpa using h1
    have d2 : decide (gp ≤ 4) = false := by simpa using fun h2 => h ⟨h1, h2⟩
    clear h
    go_enter Try.func34, Try.ntmps34
    go_wp2
    go_ret
    exact ⟨rfl, HB.out⟩
  · have d1 : decide (gk ≤ 8) = false := by simpa using h1
    clear h
    go_enter Try.func34, Try.ntmps34
    go_wp2
    go_ret
    exact ⟨rfl, HB.out⟩

theorem ops_more {w w' : World} {B B' : Nat} {A : Option Addr} {n : Nat} (h : Ops w B A n) (hk : Below B w w') (hB : B ≤ B') : Ops w' B' A n := fun i hi => by
  obtain ⟨b, off, x0, x1, x2, x3, x4, odd, xs, Ap, np, cp, e, c0, c1, c2, c3, c4, c5, c6, h7, h8, h9, h10⟩ := h.keep hk i hi
  exact ⟨b, off, x0, x1, x2, x3, x4, odd, xs, Ap, np, cp, e, c0, c1, c2, c3, c4, c5, c6, Nat.lt_of_lt_of_le h7 hB, h8, h9, bytes_more h10 hB⟩

theorem n_le {G : Shape} (h : G.Ok) : G.N ≤ 100000 := by have := h.n1; omega

theorem seven_new (w : World) (t : TypeId) (v0 v1 v2 v3 v4 v5 v6 : Value) : (w.alloc (.cells #[v0, v1, v2, v3, v4, v5, v6] t)).cell? ⟨w.heap.size, 0, none⟩ = some v0 ∧ (w.alloc (.cells #[v0, v1, v2, v3, v4, v5, v6] t)).cell? ⟨w.heap.size, 1, none⟩ = some v1 ∧ (w.alloc (.cells #[v0, v1, v2, v3, v4, v5, v6] t)).cell? ⟨w.heap.size, 2, none⟩ = some v2 ∧ (w.alloc (.cells #[v0, v1, v2, v3, v4, v5, v6] t)).cell? ⟨w.heap.size, 3, none⟩ = some v3 ∧ (w.alloc (.cells #[v0, v1, v2, v3, v4, v5, v6] t)).cell? ⟨w.heap.size, 4, none⟩ = some v4 ∧ (w.alloc (.cells #[v0, v1, v2, v3, v4, v5, v6] t)).cell? ⟨w.heap.size, 5, none⟩ = some v5 ∧ (w.alloc (.cells #[v0, v1, v2, v3, v4, v5, v6] t)).cell? ⟨w.heap.size, 6, none⟩ = some v6 := by
  refine ⟨?_, ?_, ?_, ?_, ?_, ?_, ?_⟩ <;> simp [World.cell?_alloc_at]

set_option maxHeartbeats 6400000 in
theorem walk (gc gl gk gp gs : Int) (A : Option Addr) (n c : Nat) (x0 x1 x2 x3 x4 : Int) (odd : Bool) (Ap : Option Addr) (np cp : Nat) (xs : List UInt8) (w : World) (hnc : n ≤ c) (hcm : c ≤ maxLen) (hops : Ops w w.heap.size A n) (_hnp : np ≤ cp) (_hcp : cp ≤ maxLen) (_hxs : Bytes w w.heap.size Ap np xs) :
    Calls Try.prog 6 #[.agg #[.int .i64 gc, .int .i64 gl, .int .i64 gk, .int .i64 gp, .int .i64 gs], .slice A n c, .agg #[.int .i64 x0, .int .i64 x1, .int .i64 x2, .int .i64 x3, .int .i64 x4, .bool odd, .slice Ap np cp]] w fun e w' => e = .returned (.bool true) ∧ Below w.heap.size w w' := by
  have hW0 : Below w.heap.size w ((w.alloc (.cells #[.int .i64 gc, .int .i64 gl, .int .i64 gk, .int .i64 gp, .int .i64 gs] 23)).alloc (.cells #[.int .i64 x0, .int .i64 x1, .int .i64 x2, .int .i64 x3, .int .i64 x4, .bool odd, .slice Ap np cp] 49)) := ((Below.refl w.heap.size w).alloc (Nat.le_refl _) _).alloc (by simp) _
  obtain ⟨W0, HW0⟩ : ∃ W0, Hid (W0 = (w.alloc (.cells #[.int .i64 gc, .int .i64 gl, .int .i64 gk, .int .i64 gp, .int .i64 gs] 23)).alloc (.cells #[.int .i64 x0, .int .i64 x1, .int .i64 x2, .int .i64 x3, .int .i64 x4, .bool odd, .slice Ap np cp] 49)) := ⟨_, Lib.hid rfl⟩
  have hsz : W0.heap.size = w.heap.size + 2 := by rw [HW0.out]; simp
  have HSZ : Hid (w.heap.size + 2 ≤ W0.heap.size) := Lib.hid (Nat.le_of_eq hsz.symm)
  rw [← HW0.out] at hW0
  have HEN : Hid (∀ W, Below (w.heap.size + 2) W0 W → Below w.heap.size w W) := Lib.hid (fun W h => hW0.trans (h.mono (by omega)))
  have HGK : Hid (∀ W, Below (w.heap.size + 2) W0 W → Geo W w.heap.size gc gl gk gp gs) := Lib.hid (fun W h => geo_low (by rw [HW0.out]; exact geo_keep (geo_new w 23 gc gl gk gp gs) ((Below.refl _ _).alloc (Nat.le_refl _) _)) (h.mono (by omega)))
  have HOK : Hid (∀ W, Below (w.heap.size + 2) W0 W → W.cell? ⟨w.heap.size + 1, 0, none⟩ = some (.int .i64 x0) ∧ W.cell? ⟨w.heap.size + 1, 1, none⟩ = some (.int .i64 x1) ∧ W.cell? ⟨w.heap.size + 1, 2, none⟩ = some (.int .i64 x2) ∧ W.cell? ⟨w.heap.size + 1, 3, none⟩ = some (.int .i64 x3) ∧ W.cell? ⟨w.heap.size + 1, 4, none⟩ = some (.int .i64 x4) ∧ W.cell? ⟨w.heap.size + 1, 5, none⟩ = some (.bool odd) ∧ W.cell? ⟨w.heap.size + 1, 6, none⟩ = some (.slice Ap np cp)) := Lib.hid (fun W h => by
    have h7 := seven_new (w.alloc (.cells #[.int .i64 gc, .int .i64 gl, .int .i64 gk, .int .i64 gp, .int .i64 gs] 23)) 49 (.int .i64 x0) (.int .i64 x1) (.int .i64 x2) (.int .i64 x3) (.int .i64 x4) (.bool odd) (.slice Ap np cp)
    rw [size_alloc, ← HW0.out] at h7
    obtain ⟨h0, h1, h2, h3, h4, h5, h6⟩ := h7
    have hl : ∀ j, (⟨w.heap.size + 1, j, none⟩ : Addr).block < w.heap.size + 2 := fun j => by show w.heap.size + 1 < _; omega
    exact ⟨(h.cell (p := ⟨w.heap.size + 1, 0, none⟩) (hl 0)).trans h0, (h.cell (p := ⟨w.heap.size + 1, 1, none⟩) (hl 1)).trans h1, (h.cell (p := ⟨w.heap.size + 1, 2, none⟩) (hl 2)).trans h2, (h.cell (p := ⟨w.heap.size + 1, 3, none⟩) (hl 3)).trans h3, (h.cell (p := ⟨w.heap.size + 1, 4, none⟩) (hl 4)).trans h4, (h.cell (p := ⟨w.heap.size + 1, 5, none⟩) (hl 5)).trans h5, (h.cell (p := ⟨w.heap.size + 1, 6, none⟩) (hl 6)).trans h6⟩)
  have HOPS : Hid (∀ W, Below (w.heap.size + 2) W0 W → Ops W w.heap.size A n) := Lib.hid (fun W h => hops.keep (HEN.out W h))
  have HNM : Hid (n ≤ maxLen) := Lib.hid (Nat.le_trans hnc hcm)
  have HC : Hid (Below (w.heap.size + 2) W0 ((w.alloc (.cells #[.int .i64 gc, .int .i64 gl, .int .i64 gk, .int .i64 gp, .int .i64 gs] 23)).alloc (.cells #[.int .i64 x0, .int .i64 x1, .int .i64 x2, .int .i64 x3, .int .i64 x4, .bool odd, .slice Ap np cp] 49))) := by rw [← HW0.out]; exact Lib.hid (Below.refl _ _)
  clear hW0 hsz hops hnc hcm
  by_cases hlit : gk ≤ 8 ∧ gp ≤ 4
  rotate_left
  · clear HOPS
    go_enter Try.func6, Try.ntmps6
    go_wp2_with fail
    refine (awake_any _).mono ?_
    rintro e w1 ⟨rfl, hb⟩
    replace HC := Lib.hid (then_on HSZ.out HC.out hb)
    clear hb
    obtain ⟨k0, k1, k2, k3, k4⟩ := HGK.out _ HC.out
    go_wp2_with fail
    refine (little_no gc gl gk gp gs hlit _).mono ?_
    rintro e w2 ⟨rfl, hb⟩
    clear k0 k1 k2 k3 k4
    replace HC := Lib.hid (then_on HSZ.out HC.out hb)
    clear hb
    obtain ⟨k0, k1, k2, k3, k4⟩ := HGK.out _ HC.out
    clear k0 k1 k2 k3 k4
    go_wp2
    go_ret
    exact ⟨rfl, HEN.out _ HC.out⟩
  by_cases hok : Geom.ok gc gl gk gp gs
  rotate_left
  · have H1 := Lib.hid (fun w V => begun_bad (w := w) gc gl gk gp gs hok V)
    have H2 := Lib.hid (fun w => rright_bad hok w)
    clear hok HOPS
    go_enter Try.func6, Try.ntmps6
    go_wp2_with fail
    refine (awake_any _).mono ?_
    rintro e w1 ⟨rfl, hb⟩
    replace HC := Lib.hid (then_on HSZ.out HC.out hb)
    clear hb
    obtain ⟨k0, k1, k2, k3, k4⟩ := HGK.out _ HC.out
    go_wp2_with fail
    refine (little_yes gc gl gk gp gs hlit.1 hlit.2 _).mono ?_
    rintro e w2 ⟨rfl, hb⟩
    clear k0 k1 k2 k3 k4
    replace HC := Lib.hid (then_on HSZ.out HC.out hb)
    clear hb
    obtain ⟨k0, k1, k2, k3, k4⟩ := HGK.out _ HC.out
    go_wp2_with fail
    refine (H1.out _ _).mono ?_
    rintro e w3 ⟨rfl, hb⟩
    clear k0 k1 k2 k3 k4
    replace HC := Lib.hid (then_on HSZ.out HC.out hb)
    clear hb
    obtain ⟨k0, k1, k2, k3, k4⟩ := HGK.out _ HC.out
    go_wp2_with fail
    refine (H2.out _).mono ?_
    rintro e w4 ⟨rfl, hb⟩
    clear k0 k1 k2 k3 k4
    replace HC := Lib.hid (then_on HSZ.out HC.out hb)
    clear hb
    go_wp2
    go_ret
    exact ⟨rfl, HEN.out _ HC.out⟩
  obtain ⟨G, rfl, rfl, rfl, rfl, rfl, hG⟩ : ∃ G : Shape, gc = G.c ∧ gl = G.l ∧ gk = G.k ∧ gp = G.p ∧ gs = G.s ∧ G.Ok := ⟨⟨gc, gl, gk, gp, gs, _, _, _, _⟩, rfl, rfl, rfl, rfl, rfl, Geom.sizes hok⟩
  have HG := Lib.hid hG
  clear hok hG
  go_enter Try.func6, Try.ntmps6
  go_wp2_with fail
  refine (awake_any _).mono ?_
  rintro e w1 ⟨rfl, hb⟩
  replace HC := Lib.hid (then_on HSZ.out HC.out hb)
  clear hb
  obtain ⟨k0, k1, k2, k3, k4⟩ := HGK.out _ HC.out
  go_wp2_with fail
  refine (little_yes G.c G.l G.k G.p G.s hlit.1 hlit.2 _).mono ?_
  rintro e w2 ⟨rfl, hb⟩
  clear k0 k1 k2 k3 k4
  replace HC := Lib.hid (then_on HSZ.out HC.out hb)
  clear hb
  obtain ⟨k0, k1, k2, k3, k4⟩ := HGK.out _ HC.out
  go_wp2_with fail
  refine (begun_any HG.out A n c HNM.out (ops_more (HOPS.out _ HC.out) (Below.refl _ _) (HEN.out _ HC.out).size)).mono ?_
  rintro e w3 ⟨P, st, rfl, hd, hoff, hplan, hmany, hinv, hown, hb⟩
  have HUP : Hid (∀ b, P.own b → w.heap.size + 2 ≤ b) := Lib.hid (fun b hb => Nat.le_trans (Nat.le_trans HSZ.out HC.out.size) (hown b hb))
  have HD := Lib.hid hd
  have HST := Lib.hid (And.intro hoff (And.intro hplan hmany))
  obtain ⟨gd, hgd⟩ : ∃ gd, gd = P.g := ⟨_, rfl⟩
  rw [← hgd]
  have HGD := Lib.hid hgd.symm
  clear hd hoff hplan hmany hinv hown hgd HOPS HNM
  clear k0 k1 k2 k3 k4
  replace HC := Lib.hid (then_on HSZ.out HC.out hb)
  clear hb
  have HLK := Lib.hid (look_any HG.out HD.out hlit.1 (n_le HG.out))
  rw [HGD.out] at HLK
  go_wp2_with fail
  refine HLK.out.mono ?_
  rintro e w4 ⟨rfl, hb⟩
  clear HLK
  replace HD := Lib.hid (HD.out.below hb)
  replace HC := Lib.hid (then_on HSZ.out HC.out hb)
  clear hb
  have HWG := Lib.hid (Wrong_any HD.out)
  rw [HGD.out] at HWG
  obtain ⟨S, hS⟩ : ∃ S, S = str (lookL G st) := ⟨_, rfl⟩
  rw [← hS]
  have HS := Lib.hid hS
  clear hS
  obtain ⟨wr, hwr⟩ : ∃ z, z = st.wrong := ⟨_, rfl⟩
  rw [← hwr] at HWG
  have HWR := Lib.hid hwr
  clear hwr
  go_wp2_with fail
  refine HWG.out.mono ?_
  rintro e w5 ⟨rfl, hw5⟩
  subst hw5
  clear HWG
  obtain ⟨k0, k1, k2, k3, k4⟩ := HGK.out _ HC.out
  obtain ⟨c0, c1, c2, c3, c4, c5, c6⟩ := HOK.out _ HC.out
  have HDL := Lib.hid HD.out.lt
  go_wp2_with fail
  refine (Sectors_any G.c G.l G.k G.p G.s x4 odd _).mono ?_
  rintro e w6 ⟨v1, v2, rfl, hs1, hs2, hb⟩
  obtain ⟨A1, c1', A2, c2', rfl, rfl, hc1, hcame⟩ := came_sect hs1 hs2
  have HCA := Lib.hid hcame
  clear hs1 hs2 hcame
  clear k0 k1 k2 k3 k4
  clear c0 c1 c2 c3 c4 c5 c6
  replace HD := Lib.hid (HD.out.below hb)
  replace HC := Lib.hid (then_on HSZ.out HC.out hb)
  clear hb
  obtain ⟨c0, c1, c2, c3, c4, c5, c6⟩ := HOK.out _ HC.out
  have hmm : 0 ≤ st.many ∧ st.many < 4611686018427387904 := by rw [HST.out.2.2]; omega
  have HMM := Lib.hid hmm
  obtain ⟨f, hf⟩ : ∃ f, f = few G.s := ⟨_, rfl⟩
  rw [← hf] at HCA hc1 ⊢
  clear hmm hf
  go_upto_block 0 with fail
  go_cut [15, 49, 62, 70] (fun er _ _ _ wx => ∃ (z : Int) (P2 : Pl) (st2 : St), er = .int .i64 z ∧ P2.g = gd ∧ Dev G wx P2 st2 ∧ Res st z st2 ∧ (∀ b, P2.own b → w.heap.size + 2 ≤ b) ∧ Below (w.heap.size + 2) W0 wx)
  case first =>
    by_cases hx : x0 = 0 ∨ x0 = 1
    · obtain ⟨r, hr⟩ : ∃ r, r = st.program G x1 x2 x3 (dats x4 f) (oobs x4 odd f) := ⟨_, rfl⟩
      have HRS : Hid (Res st r.1 r.2) := Lib.hid (by rw [hr]; exact res_program HST.out.1 HST.out.2.1 x1 x2 x3 _ _)
      have hP := Program_any HG.out HD.out x1 x2 x3 A1 A2 f f c1' c2' (dats x4 f) (oobs x4 odd f) HCA.out (fun b hb2 ho => by have := HDL.out b ho; omega) hc1 HMM.out.1 HMM.out.2
      rw [HGD.out, ← hr] at hP
      have HP := Lib.hid hP
      clear hP hr
      obtain ⟨z, st2⟩ := r
      dsimp only at HP HRS
      rcases hx with rfl | rfl
      all_goals
        go_wp2_with fail
        refine HP.out.mono ?_
        rintro e w7 ⟨rfl, P2, hg2, hd, ht⟩
        have HE : Hid (∃ (z' : Int) (P2 : Pl) (st2 : St), Value.int .i64 z = .int .i64 z' ∧ P2.g = gd ∧ Dev G w7 P2 st2 ∧ Res st z' st2 ∧ (∀ b, P2.own b → w.heap.size + 2 ≤ b) ∧ Below (w.heap.size + 2) W0 w7) := Lib.hid ⟨z, P2, st2, rfl, hg2, hd, HRS.out, ht.up (fun b hb => HUP.out b hb) (Nat.le_trans HSZ.out HC.out.size), HC.out.trans (ht.below (fun b hb => HUP.out b hb) (Nat.le_trans HSZ.out HC.out.size))⟩
        clear hd ht HP HRS
        go_wp2_with fail
        go_meet
        exact HE.out
    have e0 : (x0 == 0) = false := by simpa using fun h => hx (.inl h)
    have e1 : (x0 == 1) = false := by simpa using fun h => hx (.inr h)
    by_cases hx2 : x0 = 2
    · subst hx2
      obtain ⟨r, hr⟩ : ∃ r, r = st.erase G x1 x2 := ⟨_, rfl⟩
      have HRS : Hid (Res st r.1 r.2) := Lib.hid (by rw [hr]; exact res_erase HST.out.1 HST.out.2.1 x1 x2)
      have hP := Erase_any HG.out HD.out x1 x2 HMM.out.1 HMM.out.2
      rw [HGD.out, ← hr] at hP
      have HP := Lib.hid hP
      clear hP hr
      obtain ⟨z, st2⟩ := r
      dsimp only at HP HRS
      go_wp2_with fail
      refine HP.out.mono ?_
      rintro e w7 ⟨rfl, hd, ht⟩
      have HE : Hid (∃ (z' : Int) (P2 : Pl) (st2 : St), Value.int .i64 z = .int .i64 z' ∧ P2.g = gd ∧ Dev G w7 P2 st2 ∧ Res st z' st2 ∧ (∀ b, P2.own b → w.heap.size + 2 ≤ b) ∧ Below (w.heap.size + 2) W0 w7) := Lib.hid ⟨z, P, st2, rfl, HGD.out, hd, HRS.out, ht.up (fun b hb => HUP.out b hb) (Nat.le_trans HSZ.out HC.out.size), HC.out.trans (ht.below (fun b hb => HUP.out b hb) (Nat.le_trans HSZ.out HC.out.size))⟩
      clear hd ht HP HRS
      go_wp2_with fail
      go_meet
      exact HE.out
    have e2 : (x0 == 2) = false := by simpa using hx2
    by_cases hx4 : x0 = 4
    · subst hx4
      obtain ⟨r, hr⟩ : ∃ r, r = st.retire G x1 x2 := ⟨_, rfl⟩
      have HRS : Hid (Res st r.1 r.2) := Lib.hid (by rw [hr]; exact res_retire HST.out.1 x1 x2)
      have hP := Retire_any HG.out HD.out x1 x2
      rw [HGD.out, ← hr] at hP
      have HP := Lib.hid hP
      clear hP hr
      obtain ⟨z, st2⟩ := r
      dsimp only at HP HRS
      go_wp2_with fail
      refine HP.out.mono ?_
      rintro e w7 ⟨rfl, hd, ht⟩
      have HE : Hid (∃ (z' : Int) (P2 : Pl) (st2 : St), Value.int .i64 z = .int .i64 z' ∧ P2.g = gd ∧ Dev G w7 P2 st2 ∧ Res st z' st2 ∧ (∀ b, P2.own b → w.heap.size + 2 ≤ b) ∧ Below (w.heap.size + 2) W0 w7) := Lib.hid ⟨z, P, st2, rfl, HGD.out, hd, HRS.out, ht.up (fun b hb => HUP.out b hb) (Nat.le_trans HSZ.out HC.out.size), HC.out.trans (ht.below (fun b hb => HUP.out b hb) (Nat.le_trans HSZ.out HC.out.size))⟩
      clear hd ht HP HRS
      go_wp2_with fail
      go_meet
      exact HE.out
    have e4 : (x0 == 4) = false := by simpa using hx4
    have HE : Hid (∃ (z' : Int) (P2 : Pl) (st2 : St), Value.int .i64 0 = .int .i64 z' ∧ P2.g = gd ∧ Dev G w6 P2 st2 ∧ Res st z' st2 ∧ (∀ b, P2.own b → w.heap.size + 2 ≤ b) ∧ Below (w.heap.size + 2) W0 w6) := Lib.hid ⟨0, P, st, rfl, HGD.out, HD.out, .inl ⟨rfl, rfl⟩, HUP.out, HC.out⟩
    go_wp2_with fail
    go_meet
    exact HE.out
  case rest =>
    obtain ⟨z, P2, st2, rfl, r1, r2, r3, r4, r5⟩ := hcut
    rename World => wx
    replace HC := Lib.hid r5
    replace HD := Lib.hid r2
    replace HGD := Lib.hid r1
    have HRS := Lib.hid r3
    clear r1 r2 r3 r4 r5 HUP HCA HDL HMM c0 c1 c2 c3 c4 c5 c6 HOK hc1
    rcases HRS.out with ⟨rfl, hw⟩ | ⟨hz, hst⟩
    · have HWG := Wrong_any HD.out
      rw [HGD.out, hw, ← HWR.out] at HWG
      clear hw
      go_wp2_with fail
      refine HWG.mono ?_
      rintro e w8 ⟨rfl, hw8⟩
      subst hw8
      clear HWG
      go_wp2
      go_ret
      exact ⟨by first | rfl | simp, HEN.out _ HC.out⟩
    · have hz0 : (z == 0) = false := by rcases hz with rfl | rfl | rfl <;> rfl
      have HLK := look_any HG.out HD.out hlit.1 (n_le HG.out)
      rw [HGD.out, hst, look_refused, ← HS.out] at HLK
      have HWG := Lib.hid (fun W (h : Below wx.heap.size wx W) => Wrong_any (HD.out.below h))
      rw [HGD.out, hst] at HWG
      have HWZ : Hid (st.refused.wrong = wrap64 (wr + 1)) := Lib.hid (by rw [HWR.out]; rfl)
      rw [HWZ.out] at HWG
      have hw5 : IntKind.i64.wrap (wr + 1) = wrap64 (wr + 1) := IntWalk.i64_left _
      have HLK := Lib.hid HLK
      clear hst HWZ
      rcases hz with rfl | rfl | rfl
      all_goals
        go_wp2_with fail
        refine HLK.out.mono ?_
        rintro e w8 ⟨rfl, hb⟩
        have HB8 := Lib.hid hb
        replace HC := Lib.hid (then_on HSZ.out HC.out hb)
        clear hb
        go_wp2_with fail
        refine (HWG.out _ HB8.out).mono ?_
        rintro e w9 ⟨rfl, hw8⟩
        subst hw8
        go_wp2
        go_ret
        exact ⟨by first | rfl | simp, HEN.out _ HC.out⟩

theorem own : ownKnob Try.prog.godebug = none := by kernel_rfl
theorem laid : laidOutB Try.prog = true := by kernel_rfl

set_option maxRecDepth 100000 in
theorem lifted (os : Os) (started : os.Started) (H : Type) (enc : TypeId × Value → H) :
    ReturnsInHanded {} Try.checked os 6 .any (Rows.nandRefusesSpec.pre6 enc Try.prog Try.f6 Rows.nandRefusesRow.domain false) (Rows.nandRefusesSpec.post enc Try.prog Try.f6 false true false false) := by
  refine returnsInHanded_of_change (C := Try.checked) own started (by kernel_rfl) Try.func6
    (ChangeSpec.witness6 (enc := enc) (C := Try.checked) false ⟨#[], #[.agg #[.int .i64 0, .int .i64 0, .int .i64 0, .int .i64 0, .int .i64 0], .slice none 0 0, .agg #[.int .i64 0, .int .i64 0, .int .i64 0, .int .i64 0, .int .i64 0, .bool false, .slice none 0 0]], []⟩ 8 (by kernel_rfl) (by kernel_rfl) (by kernel_rfl) (by kernel_rfl)) ?_
  intro W base args ds gs before hval0 hW _ _
  have hval : ∀ (j : Nat) t v, Try.f6.params[j]? = some t → args[j]? = some v → Value.okWide Try.prog W .any base t v := hval0
  have hW' := hW
  obtain ⟨p, q, hA0, hV, rfl, hfz, hnd⟩ := hW
  have hA : DataW.TrodAll enc Try.prog W 0 (fun _ => true) true Try.f6.params.toList args.toList ds p := hA0
  rw [Try.params6] at hA hval
  obtain ⟨v0, v1, v2, d0, d1, d2, p0, p1, p2, rfl, rfl, rfl, h0, h1, h2⟩ := trodAll_three hA
  obtain ⟨c0, l0, k0, q0, s0, rfl⟩ := open_geo Try.underlying23 rfl (by kernel_rfl) (by kernel_rfl) (hval 0 23 v0 rfl rfl) h0
  obtain ⟨A1, n1, c1, rfl, hnc1, hcm1, hr1⟩ := NandOps.open_ops (hval 1 45 v1 rfl rfl) h1
  obtain ⟨x2, y2, z2, u2, v2', o2, A2, n2, c2, xs2, rfl, hnc2, hcm2, hr2⟩ := NandOps.open_op (hval 2 49 v2 rfl rfl) h2
  refine (walk c0 l0 k0 q0 s0 A1 n1 c1 x2 y2 z2 u2 v2' o2 A2 n2 c2 xs2 W hnc1 hcm1 hr1 hnc2 hcm2 hr2).mono fun e W' ⟨he, hb⟩ => ?_
  subst he
  exact ⟨_, rfl, Law.post laid (by kernel_rfl) (by kernel_rfl) Try.underlying4 rfl hW' rfl hb⟩

theorem proved : Rows.NandRefusesSaid :=
  OpenClaim.holds_of_wide 6 Try.f6 rfl rfl rfl rfl rfl rfl rfl ⟨rfl, rfl, rfl, rfl, rfl⟩ rfl rfl rfl rfl rfl (by kernel_rfl) Try.func6 (by kernel_rfl)
    (of_decide_eq_true (by kernel_rfl)) (by unfold Func.isWrapper; first | (rw [if_pos (by decide +kernel)]; kernel_rfl) | (rw [if_neg (by decide +kernel)]; exact ⟨rfl, rfl⟩))
    (fun os started H enc _ => lifted os started H enc)

end Go.Proofs.Ytlmdlhfdacmcnaa.nandRefuses
