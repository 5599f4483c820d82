/-
  NandApart holds: what is done to one block changes nothing of what can be read of others; for every geometry, all ops ahead and all ops behind. No condition.
-/
import Derived.Test.YtlmdlhfdacmcnaaNandLook
import Derived.Test.YtlmdlhfdacmcnaaNandBegun
import Derived.Test.YtlmdlhfdacmcnaaLawKit
import Derived.Test.YtlmdlhfdacmcnaaStructs
import Derived.OpenShut
import Derived.Deep.CutBlock
import Derived.Deep.DeepCutAuto
import Derived.Deep.RegionHeld3
namespace Go.Proofs.Ytlmdlhfdacmcnaa.nandApart
open Go.RowKit Go.ChangeShapes Go.WideShapes Nand NandPkg NandLaw NandOps
set_option maxRecDepth 4000

/-- What may have turned: the first block of the first unit. -/
structure Apt (G : Shape) (s0 s : St) (m : Int) : Prop where
  off : s.off = false
  plan : s.plan = []
  nx : ∀ u b, has G u b → ¬ (u = 0 ∧ b = 0) → s.nx (blk G u b) = s0.nx (blk G u b)
  wr : ∀ u b, has G u b → ¬ (u = 0 ∧ b = 0) → s.wr (blk G u b) = s0.wr (blk G u b)
  rd : ∀ u b g t, Geom.there G.U G.k G.p G.s u b g t → ¬ (u = 0 ∧ b = 0) → s.rd (adr G u b g t) = s0.rd (adr G u b g t)
  many0 : 0 ≤ s.many
  many1 : s.many ≤ m

section
variable {G : Shape} {s0 s : St} {m : Int}
theorem has0 {G : Shape} (h : G.Ok) : has G 0 0 := ⟨by omega, by have := h.u0; omega, by omega, by have := h.may.2.2.2.2.1; omega⟩
theorem Apt.more (h : Apt G s0 s m) {m' : Int} (hm : m ≤ m') : Apt G s0 s m' := ⟨h.off, h.plan, h.nx, h.wr, h.rd, h.many0, Int.le_trans h.many1 hm⟩
theorem upd_apt {α : Type} (hG : G.Ok) (f : Nat → α) (v : α) {u b : Int} (hh : has G u b) (hn : ¬ (u = 0 ∧ b = 0)) : upd f (blk G 0 0) v (blk G u b) = f (blk G u b) :=
  upd_other (fun e => hn (by have := blk_inj hG hh (has0 hG) e; exact this))

theorem Apt.program (hG : G.Ok) (h : Apt G s0 s m) (g : Int) (dat oob : List (List UInt8)) : Apt G s0 (s.program G 0 0 g dat oob).2 (m + 1) := by
  have h1 := h.many1
  have h0 := h.many0
  unfold St.program
  rw [if_neg (by rw [h.off]; simp)]
  by_cases hm : s.may G 0 0 g dat oob = 0
  · obtain ⟨⟨hh, hq0, hq1, _, _⟩, _, _⟩ := may_is hm
    rw [if_neg (fun h => h hm), h.plan, if_neg (by decide), if_neg (by decide)]
    exact ⟨h.off, rfl, fun u b hu hn => (upd_apt hG _ _ hu hn).trans (h.nx u b hu hn), h.wr, fun u b g' t hp hn => by
      show lay G 0 0 g dat oob s.rd G.s.toNat (adr G u b g' t) = _
      rw [lay_else hG hh hq0 hq1 (by have := hG.may.2.2.2.2.2.2.2.2.1; omega) hp, if_neg (fun e => hn ⟨e.1, e.2.1⟩)]
      exact h.rd u b g' t hp hn, by show 0 ≤ s.many + 1; omega, by show s.many + 1 ≤ m + 1; omega⟩
  · rw [if_pos hm]
    exact ⟨h.off, h.plan, h.nx, h.wr, h.rd, h.many0, by show s.many ≤ m + 1; omega⟩

theorem Apt.erase (hG : G.Ok) (h : Apt G s0 s m) : Apt G s0 (s.erase G 0 0).2 (m + 1) := by
  have h1 := h.many1
  have h0 := h.many0
  unfold St.erase
  rw [if_neg (by rw [h.off]; simp), if_neg (fun e => e (has0 hG))]
  by_cases hr : s.rt (blk G 0 0) = true
  · rw [if_pos hr]
    exact ⟨h.off, h.plan, h.nx, h.wr, h.rd, h.many0, by show s.many ≤ m + 1; omega⟩
  · rw [if_neg hr, h.plan, if_neg (by decide), if_neg (by decide)]
    exact ⟨h.off, rfl, fun u b hu hn => (upd_apt hG _ _ hu hn).trans (h.nx u b hu hn), fun u b hu hn => (upd_apt hG _ _ hu hn).trans (h.wr u b hu hn), fun u b g' t hp hn => by
      show wipe G 0 0 s.rd (adr G u b g' t) = _
      rw [wipe_at hG (has0 hG) hp, if_neg hn]
      exact h.rd u b g' t hp hn, by show 0 ≤ s.many + 1; omega, by show s.many + 1 ≤ m + 1; omega⟩

theorem Apt.retire (hG : G.Ok) (h : Apt G s0 s m) : Apt G s0 (s.retire G 0 0).2 m := by
  unfold St.retire
  rw [if_neg (by rw [h.off]; simp), if_neg (fun e => e (has0 hG))]
  exact ⟨h.off, h.plan, h.nx, h.wr, h.rd, h.many0, h.many1⟩

theorem Apt.othA (hG : G.Ok) (h0 : s0.off = false) (h : Apt G s0 s m) {a : Int} (ha0 : 0 ≤ a) (ha1 : a < G.N) : othA G s a = othA G s0 a := by
  obtain ⟨hp, he⟩ := Geom.number_of hG ha0 ha1
  unfold NandPkg.othA
  by_cases hz : a % G.R / G.s = 0 ∧ a / G.L = 0
  · rw [if_pos hz, if_pos hz]
  · rw [if_neg hz, if_neg hz]
    have hh : has G (a % G.R / G.s) (a / G.L) := ⟨hp.1, hp.2.1, hp.2.2.1, hp.2.2.2.1⟩
    have e1 : s.next G (a % G.R / G.s) (a / G.L) = s0.next G (a % G.R / G.s) (a / G.L) := by
      unfold St.next
      rw [if_pos hh, if_pos hh, h.nx _ _ hh hz]
    have e2 : s.wear G (a % G.R / G.s) (a / G.L) = s0.wear G (a % G.R / G.s) (a / G.L) := by
      unfold St.wear
      rw [if_pos hh, if_pos hh, h.wr _ _ hh hz]
    have hrd := h.rd _ _ _ _ hp hz
    rw [show adr G (a % G.R / G.s) (a / G.L) (a % G.L / G.R) (a % G.s) = a from he] at hrd
    have e3 : s.reads G a = s0.reads G a := by
      unfold St.reads
      rw [h.off, h0, hrd]
    rw [e1, e2, e3]

theorem Apt.othS (hG : G.Ok) (h0 : s0.off = false) (h : Apt G s0 s m) (i : Nat) (hi : (i : Int) ≤ G.N) : othS G s i = othS G s0 i := by
  induction i with
  | zero => rfl
  | succ i ih =>
    simp only [NandPkg.othS]
    rw [ih (by omega), h.othA hG h0 (by omega) (by omega)]
end

theorem opl {w : World} {B b o : Nat} {x0 x1 x2 x3 x4 : Int} {odd : Bool} {xs : List UInt8} {Ap : Option Addr} {np cp : Nat} (h : OpAt w B b o x0 x1 x2 x3 x4 odd xs Ap np cp) : w.cell? ⟨b, o, none⟩ = some (.int .i64 x0) ∧ w.cell? ⟨b, o + 4, none⟩ = some (.int .i64 x4) := ⟨h.c0, h.c4⟩
theorem little_yes (gc gl gk gp gs : Int) (h1 : gk ≤ 8) (h2 : gp ≤ 4) (w : World) : Calls Try.prog 34 #[.agg #[.int .i64 gc, .int .i64 gl, .int .i64 gk, .int .i64 gp, .int .i64 gs]] w fun e w' => e = .returned (.bool true) ∧ Below w.heap.size w w' := by
  obtain ⟨k0, k1, k2, k3, k4⟩ := geo_new w 23 gc gl gk gp gs
  have HB := Lib.hid ((Below.refl w.heap.size w).alloc (Nat.le_refl _) (.cells #[.int .i64 gc, .int .i64 gl, .int .i64 gk, .int .i64 gp, .int .i64 gs] 23))
  have d1 : decide (gk ≤ 8) = true := by simpa using h1
  have d2 : decide (gp ≤ 4) = true := by simpa using h2
  go_enter Try.func34, Try.ntmps34
  go_wp2
  go_ret
  exact ⟨rfl, HB.out⟩

theorem little_no (gc gl gk gp gs : Int) (h : ¬ (gk ≤ 8 ∧ gp ≤ 4)) (w : World) : Calls Try.prog 34 #[.agg #[.int .i64 gc, .int .i64 gl, .int .i64 gk, .int .i64 gp, .int .i64 gs]] w fun e w' => e = .returned (.bool false) ∧ Below w.heap.size w w' := by
  obtain ⟨k0, k1, k2, k3, k4⟩ := geo_new w 23 gc gl gk gp gs
  have HB := Lib.hid ((Below.refl w.heap.size w).alloc (Nat.le_refl _) (.cells #[.int .i64 gc, .int .i64 gl, .int .i64 gk, .int .i64 gp, .int .i64 gs] 23))
  by_cases h1 : gk ≤ 8
  · have d1 : decide (gk ≤ 8) = true := by simpa using h1
    have d2 : decide (gp ≤ 4) = false := by simpa using fun h2 => h ⟨h1, h2⟩
    clear h
    go_enter Try.func34, Try.ntmps34
    go_wp2
    go_ret
    exact ⟨rfl, HB.out⟩
  · have d1 : decide (gk ≤ 8) = false := by simpa using h1
    clear h
    go_enter Try.func34, Try.ntmps34
    go_wp2
    go_ret
    exact ⟨rfl, HB.out⟩

theorem ops_more {w w' : World} {B B' : Nat} {A : Option Addr} {n : Nat} (h : Ops w B A n) (hk : Below B w w') (hB : B ≤ B') : Ops w' B' A n := fun i hi => by
  obtain ⟨b, off, x0, x1, x2, x3, x4, odd, xs, Ap, np, cp, e, c0, c1, c2, c3, c4, c5, c6, h7, h8, h9, h10⟩ := h.keep hk i hi
  exact ⟨b, off, x0, x1, x2, x3, x4, odd, xs, Ap, np, cp, e, c0, c1, c2, c3, c4, c5, c6, Nat.lt_of_lt_of_le h7 hB, h8, h9, bytes_more h10 hB⟩

theorem n_le {G : Shape} (h : G.Ok) : G.N ≤ 100000 := by have := h.n1; omega

set_option maxHeartbeats 6400000 in
theorem walk (gc gl gk gp gs : Int) (A : Option Addr) (n c : Nat) (Am : Option Addr) (nm cm : Nat) (w : World) (hnc : n ≤ c) (hcm : c ≤ maxLen) (hops : Ops w w.heap.size A n) (hncm : nm ≤ cm) (hcmm : cm ≤ maxLen) (hopsm : Ops w w.heap.size Am nm) :
    Calls Try.prog 9 #[.agg #[.int .i64 gc, .int .i64 gl, .int .i64 gk, .int .i64 gp, .int .i64 gs], .slice A n c, .slice Am nm cm] w fun e w' => e = .returned (.bool true) ∧ Below w.heap.size w w' := by
  have hW0 : Below w.heap.size w (w.alloc (.cells #[.int .i64 gc, .int .i64 gl, .int .i64 gk, .int .i64 gp, .int .i64 gs] 23)) := (Below.refl w.heap.size w).alloc (Nat.le_refl _) _
  obtain ⟨W0, HW0⟩ : ∃ W0, Hid (W0 = w.alloc (.cells #[.int .i64 gc, .int .i64 gl, .int .i64 gk, .int .i64 gp, .int .i64 gs] 23)) := ⟨_, Lib.hid rfl⟩
  have hsz : W0.heap.size = w.heap.size + 1 := by rw [HW0.out]; simp
  have HSZ : Hid (w.heap.size + 1 ≤ W0.heap.size) := Lib.hid (Nat.le_of_eq hsz.symm)
  rw [← HW0.out] at hW0
  have HEN : Hid (∀ W, Below (w.heap.size + 1) W0 W → Below w.heap.size w W) := Lib.hid (fun W h => hW0.trans (h.mono (by omega)))
  have HGK : Hid (∀ W, Below (w.heap.size + 1) W0 W → Geo W w.heap.size gc gl gk gp gs) := Lib.hid (fun W h => geo_low (by rw [HW0.out]; exact geo_new w 23 gc gl gk gp gs) h)
  have HOPS : Hid (∀ W, Below (w.heap.size + 1) W0 W → Ops W w.heap.size A n) := Lib.hid (fun W h => hops.keep (HEN.out W h))
  have HNM : Hid (n ≤ maxLen) := Lib.hid (Nat.le_trans hnc hcm)
  have HOPM := Lib.hid hopsm
  have hnm0 : nm ≤ 9223372036854775807 := Nat.le_trans hncm hcmm
  have hcm0 : cm ≤ 9223372036854775807 := hcmm
  have HC : Hid (Below (w.heap.size + 1) W0 (w.alloc (.cells #[.int .i64 gc, .int .i64 gl, .int .i64 gk, .int .i64 gp, .int .i64 gs] 23))) := by rw [← HW0.out]; exact Lib.hid (Below.refl _ _)
  clear hW0 hsz hops hnc hcm hopsm hcmm
  by_cases hlit : gk ≤ 8 ∧ gp ≤ 4
  rotate_left
  · clear HOPS
    go_enter Try.func9, Try.ntmps9
    go_wp2_with fail
    refine (awake_any _).mono ?_
    rintro e w1 ⟨rfl, hb⟩
    replace HC := Lib.hid (then_on HSZ.out HC.out hb)
    clear hb
    obtain ⟨k0, k1, k2, k3, k4⟩ := HGK.out _ HC.out
    go_wp2_with fail
    refine (little_no gc gl gk gp gs hlit _).mono ?_
    rintro e w2 ⟨rfl, hb⟩
    clear k0 k1 k2 k3 k4
    replace HC := Lib.hid (then_on HSZ.out HC.out hb)
    clear hb
    obtain ⟨k0, k1, k2, k3, k4⟩ := HGK.out _ HC.out
    clear k0 k1 k2 k3 k4
    go_wp2
    go_ret
    exact ⟨rfl, HEN.out _ HC.out⟩
  by_cases hok : Geom.ok gc gl gk gp gs
  rotate_left
  · have H1 := Lib.hid (fun w V => begun_bad (w := w) gc gl gk gp gs hok V)
    have H2 := Lib.hid (fun w => rright_bad hok w)
    clear hok HOPS
    go_enter Try.func9, Try.ntmps9
    go_wp2_with fail
    refine (awake_any _).mono ?_
    rintro e w1 ⟨rfl, hb⟩
    replace HC := Lib.hid (then_on HSZ.out HC.out hb)
    clear hb
    obtain ⟨k0, k1, k2, k3, k4⟩ := HGK.out _ HC.out
    go_wp2_with fail
    refine (little_yes gc gl gk gp gs hlit.1 hlit.2 _).mono ?_
    rintro e w2 ⟨rfl, hb⟩
    clear k0 k1 k2 k3 k4
    replace HC := Lib.hid (then_on HSZ.out HC.out hb)
    clear hb
    obtain ⟨k0, k1, k2, k3, k4⟩ := HGK.out _ HC.out
    go_wp2_with fail
    refine (H1.out _ _).mono ?_
    rintro e w3 ⟨rfl, hb⟩
    clear k0 k1 k2 k3 k4
    replace HC := Lib.hid (then_on HSZ.out HC.out hb)
    clear hb
    obtain ⟨k0, k1, k2, k3, k4⟩ := HGK.out _ HC.out
    go_wp2_with fail
    refine (H2.out _).mono ?_
    rintro e w4 ⟨rfl, hb⟩
    clear k0 k1 k2 k3 k4
    replace HC := Lib.hid (then_on HSZ.out HC.out hb)
    clear hb
    go_wp2
    go_ret
    exact ⟨rfl, HEN.out _ HC.out⟩
  obtain ⟨G, rfl, rfl, rfl, rfl, rfl, hG⟩ : ∃ G : Shape, gc = G.c ∧ gl = G.l ∧ gk = G.k ∧ gp = G.p ∧ gs = G.s ∧ G.Ok := ⟨⟨gc, gl, gk, gp, gs, _, _, _, _⟩, rfl, rfl, rfl, rfl, rfl, Geom.sizes hok⟩
  have HG := Lib.hid hG
  clear hok hG
  go_enter Try.func9, Try.ntmps9
  go_wp2_with fail
  refine (awake_any _).mono ?_
  rintro e w1 ⟨rfl, hb⟩
  replace HC := Lib.hid (then_on HSZ.out HC.out hb)
  clear hb
  obtain ⟨k0, k1, k2, k3, k4⟩ := HGK.out _ HC.out
  go_wp2_with fail
  refine (little_yes G.c G.l G.k G.p G.s hlit.1 hlit.2 _).mono ?_
  rintro e w2 ⟨rfl, hb⟩
  clear k0 k1 k2 k3 k4
  replace HC := Lib.hid (then_on HSZ.out HC.out hb)
  clear hb
  obtain ⟨k0, k1, k2, k3, k4⟩ := HGK.out _ HC.out
  go_wp2_with fail
  refine (begun_any HG.out A n c HNM.out (ops_more (HOPS.out _ HC.out) (Below.refl _ _) (HEN.out _ HC.out).size)).mono ?_
  rintro e w3 ⟨P, st, rfl, hd, hoff, hplan, hmany, hinv, hown, hb⟩
  have HUP : Hid (∀ b, P.own b → w.heap.size + 1 ≤ b) := Lib.hid (fun b hb => Nat.le_trans (Nat.le_trans HSZ.out HC.out.size) (hown b hb))
  have HD := Lib.hid hd
  have HST := Lib.hid (And.intro hoff (And.intro hplan hmany))
  obtain ⟨gd, hgd⟩ : ∃ gd, gd = P.g := ⟨_, rfl⟩
  rw [← hgd]
  have HGD := Lib.hid hgd.symm
  clear hd hoff hplan hmany hinv hown hgd HOPS HNM
  clear k0 k1 k2 k3 k4
  replace HC := Lib.hid (then_on HSZ.out HC.out hb)
  clear hb
  have HOT := Lib.hid (others_any HG.out HD.out (n_le HG.out))
  rw [HGD.out] at HOT
  go_wp2_with fail
  refine HOT.out.mono ?_
  rintro e w4 ⟨rfl, hb⟩
  clear HOT
  replace HD := Lib.hid (HD.out.below hb)
  replace HC := Lib.hid (then_on HSZ.out HC.out hb)
  clear hb
  obtain ⟨S, hS⟩ : ∃ S, S = str (othS G st G.N.toNat) := ⟨_, rfl⟩
  rw [← hS]
  have HS := Lib.hid hS
  clear hS
  have HAP : Hid (Apt G st st 0) := Lib.hid ⟨HST.out.1, HST.out.2.1, fun _ _ _ _ => rfl, fun _ _ _ _ => rfl, fun _ _ _ _ _ _ => rfl, by rw [HST.out.2.2]; omega, by rw [HST.out.2.2]; omega⟩
  go_wp2
  go_loopw [12, 13, 14] (fun i _ _ wr => ∃ (j : Nat) (P2 : Pl) (s2 : St), j ≤ nm ∧ j ≤ 20 ∧ i = .int .i64 j ∧ P2.g = gd ∧ Dev G wr P2 s2 ∧ Apt G st s2 ((j : Int) * 2) ∧ (∀ b, P2.own b → w.heap.size + 1 ≤ b) ∧ Below (w.heap.size + 1) W0 wr) (fun i _ _ _ => nm - (intOf i).toNat)
  case atStart => exact ⟨0, P, st, by omega, by omega, rfl, HGD.out, HD.out, HAP.out, HUP.out, HC.out⟩
  case round =>
    rename World => wy
    obtain ⟨j, P2, s2, hj, hj2, rfl, r1, r2, r3, r4, r5⟩ := hrel
    replace HGD := Lib.hid r1
    replace HD := Lib.hid r2
    replace HAP := Lib.hid r3
    replace HUP := Lib.hid r4
    replace HC := Lib.hid r5
    clear r1 r2 r3 r4 r5
    by_cases hgo : j < nm ∧ j < 20
    rotate_left
    · have HOT := others_any HG.out HD.out (n_le HG.out)
      rw [HGD.out, HAP.out.othS HG.out HST.out.1 G.N.toNat (by have := HG.out.n0; omega), ← HS.out] at HOT
      have HOT := Lib.hid HOT
      have hstop : decide (j < nm) = false ∨ (decide (j < nm) = true ∧ decide ((j : Int) < 20) = false) := by
        by_cases h : j < nm
        · exact .inr ⟨by simpa using h, by have : ¬ j < 20 := fun h2 => hgo ⟨h, h2⟩; simp; omega⟩
        · exact .inl (by simpa using h)
      clear hgo
      rcases hstop with h1 | ⟨h1, h2⟩
      all_goals
        go_wp2_with fail
        refine HOT.out.mono ?_
        rintro e w8 ⟨rfl, hb⟩
        replace HC := Lib.hid (then_on HSZ.out HC.out hb)
        clear hb
        go_wp2
        go_ret
        exact ⟨by first | rfl | simp, HEN.out _ HC.out⟩
    obtain ⟨hlt1, hlt2⟩ := hgo
    obtain ⟨b7, o7, x0, x1, x2, x3, x4, odd, pxs, Ap, np, cp, rfl, hop⟩ := HOPM.out j hlt1
    have HOP : Hid (∀ W, Below (w.heap.size + 1) W0 W → OpAt W w.heap.size b7 (o7 + j * 7) x0 x1 x2 x3 x4 odd pxs Ap np cp) := Lib.hid (fun W h => hop.keep (HEN.out W h))
    obtain ⟨c0, c4⟩ := opl (HOP.out _ HC.out)
    clear hop
    obtain ⟨k0, k1, k2, k3, k4⟩ := HGK.out _ HC.out
    have hji : (j : Int) < nm := by omega
    have HDL := Lib.hid HD.out.lt
    obtain ⟨f, hf⟩ : ∃ f, f = few G.s := ⟨_, rfl⟩
    go_wp2_with fail
    go_region_held3 (fun w' => Geo w' w.heap.size G.c G.l G.k G.p G.s ∧ w'.cell? ⟨b7, o7 + j * 7 + 4, none⟩ = some (.int .i64 x4))
      (first | exact ⟨⟨k0, k1, k2, k3, k4⟩, c4⟩ | exact ⟨HGK.out _ HC.out, (opl (HOP.out _ HC.out)).2⟩)
      (first | (go_at_call 26; refine (Sectors_any G.c G.l G.k G.p G.s x4 false _).mono ?_; rintro e6 w6 ⟨v1, v2, rfl, hs1, hs2, hb⟩; replace HC := Lib.hid (then_on HSZ.out HC.out.drew hb); obtain ⟨A1, c1', A2, c2', hv1, hv2, hc1, hcame⟩ := came_sect hs1 hs2; subst hv1 hv2))
    clear k0 k1 k2 k3 k4 c0 c4
    replace HD := Lib.hid (HD.out.keep (fun b h => hb.block b (HDL.out b h)) hb.size)
    have HCA := Lib.hid hcame
    have HDN : Hid (∀ b, (wy.heap.size ≤ b ∧ b < w6.heap.size) → ¬ P2.own b) := Lib.hid (fun b hb2 ho => by have := HDL.out b ho; omega)
    clear hs1 hs2 hcame hb HDL
    rw [← hf] at HCA hc1 ⊢
    clear hf
    obtain ⟨g, hg⟩ : ∃ g, g = s2.next G 0 0 := ⟨_, rfl⟩
    have hN := Next_any HG.out HD.out 0 0
    rw [HGD.out, ← hg] at hN
    have HN := Lib.hid hN
    clear hN hg
    go_wp2_with fail
    refine HN.out.mono ?_
    rintro e w7 ⟨rfl, hb⟩
    clear HN
    replace HCA := Lib.hid (HCA.out.below hb)
    replace HD := Lib.hid (HD.out.below hb)
    replace HC := Lib.hid (then_on HSZ.out HC.out hb)
    clear hb
    have hP := Program_any HG.out HD.out 0 0 g A1 A2 f f c1' c2' (dats x4 f) (oobs x4 false f) HCA.out HDN.out hc1 HAP.out.many0 (by have := HAP.out.many1; omega)
    replace HAP := Lib.hid (HAP.out.program HG.out g (dats x4 f) (oobs x4 false f))
    obtain ⟨r, hr⟩ : ∃ r, r = s2.program G 0 0 g (dats x4 f) (oobs x4 false f) := ⟨_, rfl⟩
    rw [← hr] at HAP
    rw [HGD.out, ← hr] at hP
    have HP := Lib.hid hP
    clear hP hr hc1
    obtain ⟨z, s3⟩ := r
    dsimp only at HP HAP
    go_wp2_with fail
    refine HP.out.mono ?_
    rintro e w8 ⟨rfl, P3, hg3, hd, ht⟩
    replace HGD := Lib.hid hg3
    replace HD := Lib.hid hd
    have HUP0 := HUP
    replace HUP := Lib.hid (ht.up (fun b hb => HUP0.out b hb) (Nat.le_trans HSZ.out HC.out.size))
    replace HC := Lib.hid (HC.out.trans (ht.below (fun b hb => HUP0.out b hb) (Nat.le_trans HSZ.out HC.out.size)))
    clear hg3 hd ht HP HUP0 HCA HDN
    obtain ⟨c0, c4⟩ := opl (HOP.out _ HC.out)
    by_cases hx2 : x0 = 2
    · subst hx2
      have hE := Erase_any HG.out HD.out 0 0 HAP.out.many0 (by have := HAP.out.many1; omega)
      replace HAP := Lib.hid (HAP.out.erase HG.out)
      obtain ⟨r, hr⟩ : ∃ r, r = s3.erase G 0 0 := ⟨_, rfl⟩
      rw [← hr] at HAP
      rw [HGD.out, ← hr] at hE
      have HE := Lib.hid hE
      clear hE hr
      obtain ⟨z4, s4⟩ := r
      dsimp only at HE HAP
      go_wp2_with fail
      refine HE.out.mono ?_
      rintro e w9 ⟨rfl, hd, ht⟩
      replace HD := Lib.hid hd
      have HUP0 := HUP
      replace HUP := Lib.hid (ht.up (fun b hb => HUP0.out b hb) (Nat.le_trans HSZ.out HC.out.size))
      replace HC := Lib.hid (HC.out.trans (ht.below (fun b hb => HUP0.out b hb) (Nat.le_trans HSZ.out HC.out.size)))
      clear hd ht HE HUP0 c0 c4
      obtain ⟨c0, c4⟩ := opl (HOP.out _ HC.out)
      go_wp2
      go_roundw
      case rel => exact ⟨j + 1, P3, s4, by omega, by omega, by go_num, HGD.out, HD.out, HAP.out.more (by omega), HUP.out, HC.out⟩
      case measure => simp [intOf]; omega
    have e2 : (x0 == 2) = false := by simpa using hx2
    by_cases hx4 : x0 = 4
    · subst hx4
      have hE := Retire_any HG.out HD.out 0 0
      replace HAP := Lib.hid (HAP.out.retire HG.out)
      obtain ⟨r, hr⟩ : ∃ r, r = s3.retire G 0 0 := ⟨_, rfl⟩
      rw [← hr] at HAP
      rw [HGD.out, ← hr] at hE
      have HE := Lib.hid hE
      clear hE hr
      obtain ⟨z4, s4⟩ := r
      dsimp only at HE HAP
      go_wp2_with fail
      refine HE.out.mono ?_
      rintro e w9 ⟨rfl, hd, ht⟩
      replace HD := Lib.hid hd
      have HUP0 := HUP
      replace HUP := Lib.hid (ht.up (fun b hb => HUP0.out b hb) (Nat.le_trans HSZ.out HC.out.size))
      replace HC := Lib.hid (HC.out.trans (ht.below (fun b hb => HUP0.out b hb) (Nat.le_trans HSZ.out HC.out.size)))
      clear hd ht HE HUP0 c0 c4
      go_wp2
      go_roundw
      case rel => exact ⟨j + 1, P3, s4, by omega, by omega, by go_num, HGD.out, HD.out, HAP.out.more (by omega), HUP.out, HC.out⟩
      case measure => simp [intOf]; omega
    have e4 : (x0 == 4) = false := by simpa using hx4
    go_wp2
    go_roundw
    case rel => exact ⟨j + 1, P3, s3, by omega, by omega, by go_num, HGD.out, HD.out, HAP.out.more (by omega), HUP.out, HC.out⟩
    case measure => simp [intOf]; omega

theorem own : ownKnob Try.prog.godebug = none := by kernel_rfl
theorem laid : laidOutB Try.prog = true := by kernel_rfl

set_option maxRecDepth 100000 in
theorem lifted (os : Os) (started : os.Started) (H : Type) (enc : TypeId × Value → H) :
    ReturnsInHanded {} Try.checked os 9 .any (Rows.nandApartSpec.pre6 enc Try.prog Try.f9 Rows.nandApartRow.domain false) (Rows.nandApartSpec.post enc Try.prog Try.f9 false true false false) := by
  refine returnsInHanded_of_change (C := Try.checked) own started (by kernel_rfl) Try.func9
    (ChangeSpec.witness6 (enc := enc) (C := Try.checked) false ⟨#[], #[.agg #[.int .i64 0, .int .i64 0, .int .i64 0, .int .i64 0, .int .i64 0], .slice none 0 0, .slice none 0 0], []⟩ 8 (by kernel_rfl) (by kernel_rfl) (by kernel_rfl) (by kernel_rfl)) ?_
  intro W base args ds gs before hval0 hW _ _
  have hval : ∀ (j : Nat) t v, Try.f9.params[j]? = some t → args[j]? = some v → Value.okWide Try.prog W .any base t v := hval0
  have hW' := hW
  obtain ⟨p, q, hA0, hV, rfl, hfz, hnd⟩ := hW
  have hA : DataW.TrodAll enc Try.prog W 0 (fun _ => true) true Try.f9.params.toList args.toList ds p := hA0
  rw [Try.params9] at hA hval
  obtain ⟨v0, v1, v2, d0, d1, d2, p0, p1, p2, rfl, rfl, rfl, h0, h1, h2⟩ := trodAll_three hA
  obtain ⟨c0, l0, k0, q0, s0, rfl⟩ := open_geo Try.underlying23 rfl (by kernel_rfl) (by kernel_rfl) (hval 0 23 v0 rfl rfl) h0
  obtain ⟨A1, n1, c1, rfl, hnc1, hcm1, hr1⟩ := NandOps.open_ops (hval 1 45 v1 rfl rfl) h1
  obtain ⟨A2, n2, c2, rfl, hnc2, hcm2, hr2⟩ := NandOps.open_ops (hval 2 45 v2 rfl rfl) h2
  refine (walk c0 l0 k0 q0 s0 A1 n1 c1 A2 n2 c2 W hnc1 hcm1 hr1 hnc2 hcm2 hr2).mono fun e W' ⟨he, hb⟩ => ?_
  subst he
  exact ⟨_, rfl, Law.post laid (by kernel_rfl) (by kernel_rfl) Try.underlying4 rfl hW' rfl hb⟩

theorem proved : Rows.NandApartSaid :=
  OpenClaim.holds_of_wide 9 Try.f9 rfl rfl rfl rfl rfl rfl rfl ⟨rfl, rfl, rfl, rfl, rfl⟩ rfl rfl rfl rfl rfl (by kernel_rfl) Try.func9 (by kernel_rfl)
    (of_decide_eq_true (by kernel_rfl)) (by unfold Func.isWrapper; first | (rw [if_pos (by decide +kernel)]; kernel_rfl) | (rw [if_neg (by decide +kernel)]; exact ⟨rfl, rfl⟩))
    (fun os started H enc _ => lifted os started H enc)

end Go.Proofs.Ytlmdlhfdacmcnaa.nandApart
