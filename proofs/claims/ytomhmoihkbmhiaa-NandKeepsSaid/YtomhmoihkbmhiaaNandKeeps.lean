/-
  NandKeeps holds: what was programmed is read as it was, whatever else is done, till its block is erased; for every geometry, all ops ahead and all ops behind. No condition.
-/
import Derived.Test.YtomhmoihkbmhiaaNandBegun
import Derived.Test.YtomhmoihkbmhiaaLawKit
import Derived.Test.YtomhmoihkbmhiaaStructs
import Derived.OpenShut
import Derived.Test.YtomhmoihkbmhiaaMade
import Derived.Deep.CutBlock
import Derived.Deep.DeepCutAuto
import Derived.Test.YtomhmoihkbmhiaaVals
namespace Go.Proofs.Ytomhmoihkbmhiaa.nandKeeps
open Go.RowKit Go.ChangeShapes Go.WideShapes Nand NandPkg NandLaw NandOps
set_option maxRecDepth 4000

theorem geo_low {w wr : World} {b : Nat} {c l k p s : Int} (h : Geo w b c l k p s) (hb : Below (b + 1) w wr) : Geo wr b c l k p s :=
  ⟨(hb.cell (p := ⟨b, 0, none⟩) (Nat.lt_succ_self _)).trans h.1, (hb.cell (p := ⟨b, 1, none⟩) (Nat.lt_succ_self _)).trans h.2.1, (hb.cell (p := ⟨b, 2, none⟩) (Nat.lt_succ_self _)).trans h.2.2.1, (hb.cell (p := ⟨b, 3, none⟩) (Nat.lt_succ_self _)).trans h.2.2.2.1, (hb.cell (p := ⟨b, 4, none⟩) (Nat.lt_succ_self _)).trans h.2.2.2.2⟩

theorem has0 {G : Shape} (h : G.Ok) : has G 0 0 := ⟨by omega, by have := h.u0; omega, by omega, by have := h.may.2.2.2.2.1; omega⟩

theorem ops_more {w w' : World} {B B' : Nat} {A : Option Addr} {n : Nat} (h : Ops w B A n) (hk : Below B w w') (hB : B ≤ B') : Ops w' B' A n := fun i hi => by
  obtain ⟨b, off, x0, x1, x2, x3, x4, odd, xs, Ap, np, cp, e, c0, c1, c2, c3, c4, c5, c6, h7, h8, h9, h10⟩ := h.keep hk i hi
  exact ⟨b, off, x0, x1, x2, x3, x4, odd, xs, Ap, np, cp, e, c0, c1, c2, c3, c4, c5, c6, Nat.lt_of_lt_of_le h7 hB, h8, h9, bytes_more h10 hB⟩

/-- What is good. -/
def fine (x : UInt8) : Bool := decide (x.toNat % 4 = 0 ∨ x.toNat % 4 = 3)

theorem says_one (x : UInt8) : Plan.says [x] = Plan.out (x.toNat : Int) := rfl

theorem says_fine (x : UInt8) : (fine x = true → Plan.says [x] = 0) ∧ (fine x = false → Plan.says [x] = 1 ∨ Plan.says [x] = 2) := by
  rw [says_one]
  unfold fine Plan.out
  constructor
  · intro h
    have h := of_decide_eq_true h
    split
    · rfl
    · omega
  · intro h
    have h := of_decide_eq_false h
    split
    · omega
    · omega

theorem read_none {G : Shape} {st : St} {a : Int} (h1 : st.off = false) (h2 : 0 ≤ a ∧ a < G.N) (h3 : st.rd a = none) : st.reads G a = ([], [], 6) := by
  unfold St.reads
  rw [if_neg (by rw [h1]; simp), if_neg (fun h => h h2), h3]
theorem few_lt {s : Int} {k : Nat} (hk : (k : Int) < s) (hs : 1 ≤ s ∧ s ≤ 4) : k < few s := by
  unfold few
  omega


/-- What was programmed at a page stands there, and the block's next page is behind it. -/
structure Kp (G : Shape) (g : Int) (dat oob : List (List UInt8)) (m : Int) (st : St) : Prop where
  nx : g < st.nx (blk G 0 0)
  rd : ∀ k : Nat, (k : Int) < G.s → st.rd (adr G 0 0 g k) = some (dat.getD k [], oob.getD k [])
  many0 : 0 ≤ st.many
  many1 : st.many ≤ m

section
variable {G : Shape} {g : Int} {dat oob : List (List UInt8)} {m : Int} {st : St}

theorem Kp.plan (h : Kp G g dat oob m st) (xs : List UInt8) (hm : 0 ≤ m) : Kp G g dat oob m { st with plan := xs, many := 0 } := ⟨h.nx, h.rd, Int.le_refl _, hm⟩
theorem Kp.power (h : Kp G g dat oob m st) : Kp G g dat oob m { st with off := false } := ⟨h.nx, h.rd, h.many0, h.many1⟩
theorem Kp.more (h : Kp G g dat oob m st) {m' : Int} (hm : m ≤ m') : Kp G g dat oob m' st := ⟨h.nx, h.rd, h.many0, Int.le_trans h.many1 hm⟩

theorem Kp.used (hG : G.Ok) (hg0 : 0 ≤ g) (hg1 : g < G.p) (h : Kp G g dat oob m st) {u b q : Int} {dat' oob' : List (List UInt8)} (hm : st.may G u b q dat' oob' = 0) {z : Nat} (hz : (z : Int) ≤ G.s) :
    g < (upd st.nx (blk G u b) (q + 1)) (blk G 0 0) ∧ ∀ k : Nat, (k : Int) < G.s → (lay G u b q dat' oob' st.rd z) (adr G 0 0 g k) = some (dat.getD k [], oob.getD k []) := by
  obtain ⟨⟨hh, hq0, hq1, _, _⟩, _, hx⟩ := may_is hm
  constructor
  · unfold upd
    split
    · rename_i e
      have := h.nx
      rw [e, ← hx] at this
      omega
    · exact h.nx
  · intro k hk
    have hp : Geom.there G.U G.k G.p G.s 0 0 g k := ⟨by omega, (has0 hG).2.1, by omega, (has0 hG).2.2.2, hg0, hg1, by omega, hk⟩
    rw [lay_else hG hh hq0 hq1 hz hp, if_neg (fun e => ?_)]
    · exact h.rd k hk
    · obtain ⟨rfl, rfl, e3, _⟩ := e
      have := h.nx
      rw [← hx] at this
      omega

theorem Kp.program (hG : G.Ok) (hg0 : 0 ≤ g) (hg1 : g < G.p) (h : Kp G g dat oob m st) (u b q : Int) (dat' oob' : List (List UInt8)) : Kp G g dat oob (m + 1) (st.program G u b q dat' oob').2 := by
  have hmm := program_many (G := G) u b q dat' oob' h.many0
  have hmx : (st.program G u b q dat' oob').2.many ≤ m + 1 := by have := h.many1; omega
  have hs0 : 1 ≤ G.s := hG.may.2.2.2.2.2.2.2.2.1
  suffices g < (st.program G u b q dat' oob').2.nx (blk G 0 0) ∧ ∀ k : Nat, (k : Int) < G.s → (st.program G u b q dat' oob').2.rd (adr G 0 0 g k) = some (dat.getD k [], oob.getD k []) from ⟨this.1, this.2, hmm.1, hmx⟩
  unfold St.program
  by_cases hoff : st.off = true
  · rw [if_pos hoff]
    exact ⟨h.nx, h.rd⟩
  · rw [if_neg hoff]
    by_cases hm : st.may G u b q dat' oob' = 0
    · rw [if_neg (fun h => h hm)]
      have hml := many_in st.plan (s := G.s) (by omega)
      by_cases h1 : Plan.says st.plan = 1
      · rw [if_pos h1]
        exact h.used hG hg0 hg1 hm (z := 0) (by omega)
      · rw [if_neg h1]
        by_cases h2 : Plan.says st.plan = 2
        · rw [if_pos h2]
          exact h.used hG hg0 hg1 hm (z := (Plan.many st.plan G.s).toNat) (by omega)
        · rw [if_neg h2]
          exact h.used hG hg0 hg1 hm (z := G.s.toNat) (by omega)
    · rw [if_pos hm]
      exact ⟨h.nx, h.rd⟩

theorem Kp.wiped (hG : G.Ok) (hg0 : 0 ≤ g) (hg1 : g < G.p) (h : Kp G g dat oob m st) {u b : Int} (hh : has G u b) (hn : ¬ (u = 0 ∧ b = 0)) (x : Int) :
    g < (upd st.nx (blk G u b) x) (blk G 0 0) ∧ ∀ k : Nat, (k : Int) < G.s → (wipe G u b st.rd) (adr G 0 0 g k) = some (dat.getD k [], oob.getD k []) := by
  constructor
  · unfold upd
    rw [if_neg (fun e => hn (by have := blk_inj hG (has0 hG) hh e; exact ⟨this.1.symm, this.2.symm⟩))]
    exact h.nx
  · intro k hk
    have hp : Geom.there G.U G.k G.p G.s 0 0 g k := ⟨by omega, (has0 hG).2.1, by omega, (has0 hG).2.2.2, hg0, hg1, by omega, hk⟩
    rw [wipe_at hG hh hp, if_neg (fun e => hn ⟨e.1.symm, e.2.symm⟩)]
    exact h.rd k hk

theorem Kp.erase (hG : G.Ok) (hg0 : 0 ≤ g) (hg1 : g < G.p) (h : Kp G g dat oob m st) (u b : Int) (hn : ¬ (u = 0 ∧ b = 0)) : Kp G g dat oob (m + 1) (st.erase G u b).2 := by
  have hmm := erase_many (G := G) u b h.many0
  have hmx : (st.erase G u b).2.many ≤ m + 1 := by have := h.many1; omega
  suffices g < (st.erase G u b).2.nx (blk G 0 0) ∧ ∀ k : Nat, (k : Int) < G.s → (st.erase G u b).2.rd (adr G 0 0 g k) = some (dat.getD k [], oob.getD k []) from ⟨this.1, this.2, hmm.1, hmx⟩
  unfold St.erase
  by_cases hoff : st.off = true
  · rw [if_pos hoff]
    exact ⟨h.nx, h.rd⟩
  · rw [if_neg hoff]
    by_cases hh : has G u b
    · rw [if_neg (fun e => e hh)]
      by_cases hr : st.rt (blk G u b) = true
      · rw [if_pos hr]
        exact ⟨h.nx, h.rd⟩
      · rw [if_neg hr]
        by_cases h1 : Plan.says st.plan = 1
        · rw [if_pos h1]
          exact h.wiped hG hg0 hg1 hh hn _
        · rw [if_neg h1]
          by_cases h2 : Plan.says st.plan = 2
          · rw [if_pos h2]
            exact h.wiped hG hg0 hg1 hh hn _
          · rw [if_neg h2]
            exact h.wiped hG hg0 hg1 hh hn _
    · rw [if_pos hh]
      exact ⟨h.nx, h.rd⟩

theorem Kp.retire (h : Kp G g dat oob m st) (u b : Int) : Kp G g dat oob m (st.retire G u b).2 := by
  have hmm := retire_many (G := G) (st := st) u b
  suffices g < (st.retire G u b).2.nx (blk G 0 0) ∧ ∀ k : Nat, (k : Int) < G.s → (st.retire G u b).2.rd (adr G 0 0 g k) = some (dat.getD k [], oob.getD k []) from ⟨this.1, this.2, by rw [hmm]; exact h.many0, by rw [hmm]; exact h.many1⟩
  unfold St.retire
  by_cases hoff : st.off = true
  · rw [if_pos hoff]
    exact ⟨h.nx, h.rd⟩
  · rw [if_neg hoff]
    by_cases hh : has G u b
    · rw [if_neg (fun e => e hh)]
      exact ⟨h.nx, h.rd⟩
    · rw [if_pos hh]
      exact ⟨h.nx, h.rd⟩

/-- What is read of it. -/
theorem Kp.reads (hG : G.Ok) (hg0 : 0 ≤ g) (hg1 : g < G.p) (h : Kp G g dat oob m st) (hoff : st.off = false) {a : Int} (ha : a = adr G 0 0 g 0) (k : Nat) (hk : (k : Int) < G.s) : st.reads G (a + k) = (dat.getD k [], oob.getD k [], 0) := by
  have hp : Geom.there G.U G.k G.p G.s 0 0 g k := ⟨by omega, (has0 hG).2.1, by omega, (has0 hG).2.2.2, hg0, hg1, by omega, hk⟩
  have ha2 : a + k = adr G 0 0 g k := by rw [ha]; unfold adr; omega
  have hbd := adr_bd hG hp
  unfold St.reads
  rw [if_neg (by rw [hoff]; simp), ha2, if_neg (fun h => h hbd), h.rd k hk]
end

/-- A page programmed where all is good. -/
theorem keep_one {G : Shape} (hG : G.Ok) {st : St} (g n : Int) (h1 : st.off = false) (h2 : st.rt (blk G 0 0) = false) (h3 : st.plan = []) (h4 : st.many = 0) (h5 : g = st.nx (blk G 0 0)) (h6 : 0 ≤ g ∧ g < G.p) :
    ∃ st2, st.program G 0 0 g (dats n (few G.s)) (oobs n false (few G.s)) = (0, st2) ∧ st2.off = false ∧ Kp G g (dats n (few G.s)) (oobs n false (few G.s)) 1 st2 := by
  have hs := hG.may.2.2.2.2.2.2.2.2
  have hb : mayBe G 0 0 g (dats n (few G.s)) (oobs n false (few G.s)) := ⟨has0 hG, h6.1, h6.2, fit_dats hG n, fit_oobs hG n⟩
  have hm := may_good (st := st) hb h2 h5
  refine ⟨_, program_good h1 hm (by rw [h3]; rfl), h1, ?_, fun k hk => ?_, ?_, ?_⟩
  · show g < upd st.nx (blk G 0 0) (g + 1) (blk G 0 0)
    rw [upd_same]
    omega
  · exact lay_at hG (has0 hG) h6 (by omega) (by omega)
  · show 0 ≤ st.many + 1
    omega
  · show st.many + 1 ≤ 1
    omega

theorem seven {w : World} {g : Nat} {t : TypeId} {x0 x1 x2 x3 x4 x5 x6 : Value} (h : w.heap[g]? = some (.cells #[x0, x1, x2, x3, x4, x5, x6] t (0, 0))) : w.cell? ⟨g, 0, none⟩ = some x0 ∧ w.cell? ⟨g, 1, none⟩ = some x1 ∧ w.cell? ⟨g, 2, none⟩ = some x2 ∧ w.cell? ⟨g, 3, none⟩ = some x3 ∧ w.cell? ⟨g, 4, none⟩ = some x4 ∧ w.cell? ⟨g, 5, none⟩ = some x5 ∧ w.cell? ⟨g, 6, none⟩ = some x6 := by
  simp [World.cell?, h]

set_option maxHeartbeats 16000000 in
theorem walk (gc gl gk gp gs : Int) (A : Option Addr) (n c : Nat) (Am : Option Addr) (nm cm : Nat) (w : World) (hnc : n ≤ c) (hcm : c ≤ maxLen) (hops : Ops w w.heap.size A n) (hncm : nm ≤ cm) (hcmm : cm ≤ maxLen) (hopsm : Ops w w.heap.size Am nm) :
    Calls Try.prog 5 #[.agg #[.int .i64 gc, .int .i64 gl, .int .i64 gk, .int .i64 gp, .int .i64 gs], .slice A n c, .slice Am nm cm] w fun e w' => e = .returned (.bool true) ∧ Below w.heap.size w w' := by
  have HOPM := Lib.hid hopsm
  have hnm0 : nm ≤ 9223372036854775807 := Nat.le_trans hncm hcmm
  clear hopsm hncm hcmm
  have HB := Lib.hid ((Below.refl w.heap.size w).alloc (Nat.le_refl _) (.cells #[.int .i64 gc, .int .i64 gl, .int .i64 gk, .int .i64 gp, .int .i64 gs] 23))
  have HGE := Lib.hid (geo_new w 23 gc gl gk gp gs)
  have HOPS := Lib.hid hops
  have hnm : n ≤ maxLen := Nat.le_trans hnc hcm
  have HNM := Lib.hid hnm
  clear hops hnc hcm hnm
  by_cases hok : Geom.ok gc gl gk gp gs
  rotate_left
  · have H1 := Lib.hid (fun w V => begun_bad (w := w) gc gl gk gp gs hok V)
    have H2 := Lib.hid (fun w => rright_bad hok w)
    clear hok
    go_enter Try.func5, Try.ntmps5
    go_wp2_with fail
    refine (awake_any _).mono ?_
    rintro e w1 ⟨rfl, hb⟩
    replace HB := Lib.hid (below_then HB.out hb)
    replace HGE := Lib.hid (geo_keep HGE.out hb)
    obtain ⟨k0, k1, k2, k3, k4⟩ := HGE.out
    clear hb
    go_wp2_with fail
    refine (H1.out _ _).mono ?_
    rintro e w2 ⟨rfl, hb⟩
    replace HB := Lib.hid (below_then HB.out hb)
    replace HGE := Lib.hid (geo_keep HGE.out hb)
    clear k0 k1 k2 k3 k4 hb
    obtain ⟨k0, k1, k2, k3, k4⟩ := HGE.out
    go_wp2_with fail
    refine (H2.out _).mono ?_
    rintro e w3 ⟨rfl, hb⟩
    replace HB := Lib.hid (below_then HB.out hb)
    clear hb k0 k1 k2 k3 k4
    go_wp2
    go_ret
    exact ⟨rfl, HB.out⟩
  obtain ⟨G, rfl, rfl, rfl, rfl, rfl, hG⟩ : ∃ G : Shape, gc = G.c ∧ gl = G.l ∧ gk = G.k ∧ gp = G.p ∧ gs = G.s ∧ G.Ok := ⟨⟨gc, gl, gk, gp, gs, _, _, _, _⟩, rfl, rfl, rfl, rfl, rfl, Geom.sizes hok⟩
  have HG := Lib.hid hG
  clear hok hG
  go_enter Try.func5, Try.ntmps5
  go_wp2_with fail
  refine (awake_any _).mono ?_
  rintro e w1 ⟨rfl, hb⟩
  replace HB := Lib.hid (below_then HB.out hb)
  replace HGE := Lib.hid (geo_keep HGE.out hb)
  obtain ⟨k0, k1, k2, k3, k4⟩ := HGE.out
  clear hb
  have HS1 : Hid (w.heap.size + 1 ≤ w1.heap.size) := Lib.hid (World.block_lt_of_cell? _ _ k0)
  go_wp2_with fail
  refine (begun_any HG.out A n c HNM.out (ops_more HOPS.out HB.out HB.out.size)).mono ?_
  rintro e w2 ⟨P, st, rfl, hd, hoff, hplan, hmany, hinv, hown, hb⟩
  have HUP : Hid (∀ b, P.own b → w.heap.size + 1 ≤ b) := Lib.hid (fun b hb => Nat.le_trans HS1.out (hown b hb))
  have HD := Lib.hid hd
  have HINV := Lib.hid hinv
  have HST := Lib.hid (And.intro hoff (And.intro hplan hmany))
  have HC : Hid (Below (w.heap.size + 1) w1 w2) := Lib.hid (hb.mono HS1.out)
  obtain ⟨gd, hgd⟩ : ∃ gd, gd = P.g := ⟨_, rfl⟩
  rw [← hgd]
  have HGD := Lib.hid hgd.symm
  clear hd hoff hplan hmany hinv hown hgd k0 k1 k2 k3 k4 hb
  obtain ⟨k0, k1, k2, k3, k4⟩ := geo_low HGE.out HC.out
  have hnb := HINV.out.1 (blk G 0 0)
  have hn0 := Next_any HG.out HD.out 0 0
  rw [show st.next G 0 0 = st.nx (blk G 0 0) from if_pos (has0 HG.out), HGD.out] at hn0
  obtain ⟨g, hg⟩ : ∃ g, g = st.nx (blk G 0 0) := ⟨_, rfl⟩
  rw [← hg] at hn0 hnb
  have HGN := Lib.hid hg
  have HN0 := Lib.hid hn0
  clear hg hn0
  have hpp : 1 ≤ G.p ∧ G.p ≤ 32 := ⟨HG.out.may.2.2.2.2.2.2.1, HG.out.may.2.2.2.2.2.2.2.1⟩
  go_wp2_with fail
  refine HN0.out.mono ?_
  rintro e w3 ⟨rfl, hb⟩
  replace HD := Lib.hid (HD.out.below hb)
  replace HC := Lib.hid (HC.out.trans (hb.mono (Nat.le_trans HS1.out HC.out.size)))
  clear k0 k1 k2 k3 k4 hb
  obtain ⟨k0, k1, k2, k3, k4⟩ := geo_low HGE.out HC.out
  have dn : decide (g < 0) = false := by simp; omega
  by_cases hfull : G.p ≤ g
  · have df : decide (G.p ≤ g) = true := by simpa using hfull
    go_wp2
    go_ret
    exact ⟨rfl, HB.out.trans (HC.out.mono (Nat.le_succ _))⟩
  have df : decide (G.p ≤ g) = false := by simpa using hfull
  have hr0 := Retired_any HG.out HD.out 0 0
  rw [show st.retired G 0 0 = st.rt (blk G 0 0) from if_pos (has0 HG.out), HGD.out] at hr0
  have HR0 := Lib.hid hr0
  clear hr0
  cases hrt : st.rt (blk G 0 0) with
  | true =>
    rw [hrt] at HR0
    clear hrt
    go_wp2_with fail
    refine HR0.out.mono ?_
    rintro e w4 ⟨rfl, hb⟩
    replace HD := Lib.hid (HD.out.below hb)
    replace HC := Lib.hid (HC.out.trans (hb.mono (Nat.le_trans HS1.out HC.out.size)))
    clear k0 k1 k2 k3 k4 hb
    obtain ⟨k0, k1, k2, k3, k4⟩ := geo_low HGE.out HC.out
    go_wp2
    go_ret
    exact ⟨rfl, HB.out.trans (HC.out.mono (Nat.le_succ _))⟩
  | false =>
    rw [hrt] at HR0
    have HRT := Lib.hid hrt
    clear hrt
    go_wp2_with fail
    refine HR0.out.mono ?_
    rintro e w5 ⟨rfl, hb⟩
    replace HD := Lib.hid (HD.out.below hb)
    replace HC := Lib.hid (HC.out.trans (hb.mono (Nat.le_trans HS1.out HC.out.size)))
    clear k0 k1 k2 k3 k4 hb
    obtain ⟨k0, k1, k2, k3, k4⟩ := geo_low HGE.out HC.out
    go_wp2_with fail
    refine (Sectors_any G.c G.l G.k G.p G.s 77 false w5).mono ?_
    rintro e w6 ⟨v1, v2, rfl, hs1, hs2, hb⟩
    obtain ⟨A1, c1, A2, c2, rfl, rfl, hc1, hcame⟩ := came_sect hs1 hs2
    have HDW := Lib.hid HD.out.lt
    obtain ⟨D, hD⟩ : ∃ D : Nat → Prop, D = fun b => w5.heap.size ≤ b ∧ b < w6.heap.size := ⟨_, rfl⟩
    have HDN : Hid (∀ b, D b → ¬ P.own b) := Lib.hid (fun b hb2 ho => by rw [hD] at hb2; have := HDW.out b ho; omega)
    rw [← hD] at hcame
    have HCA := Lib.hid hcame
    clear hs1 hs2 hD hcame HDW
    replace HD := Lib.hid (HD.out.below hb)
    replace HC := Lib.hid (HC.out.trans (hb.mono (Nat.le_trans HS1.out HC.out.size)))
    clear k0 k1 k2 k3 k4 hb
    obtain ⟨k0, k1, k2, k3, k4⟩ := geo_low HGE.out HC.out
    obtain ⟨st2, hPR, h1, h2⟩ := keep_one HG.out (st := st) g 77 HST.out.1 HRT.out HST.out.2.1 HST.out.2.2 HGN.out (by omega)
    have hP := Program_any HG.out HD.out 0 0 g A1 A2 (few G.s) (few G.s) c1 c2 (dats 77 (few G.s)) (oobs 77 false (few G.s)) HCA.out HDN.out hc1 (by rw [HST.out.2.2]; omega) (by rw [HST.out.2.2]; omega)
    rw [hPR, HGD.out] at hP
    have HOFF := Lib.hid h1
    have HKP := Lib.hid h2
    clear h1 h2 hPR
    obtain ⟨f, hf⟩ : ∃ f, f = few G.s := ⟨_, rfl⟩
    rw [← hf] at hP hc1 HCA ⊢
    have HF := Lib.hid hf
    clear hf
    go_wp2_with fail
    refine hP.mono ?_
    rintro e w7 ⟨rfl, P2, hg2, hd, ht⟩
    replace HGD : Hid (P2.g = gd) := Lib.hid hg2
    clear hP hg2
    have HCA1 := Lib.hid (HCA.out.turn ht HDN.out)
    replace HDN := Lib.hid (ht.apart (fun b hb => HCA.out.lt b hb) HDN.out)
    replace HCA := HCA1
    clear HCA1
    have HUP0 := HUP
    replace HUP := Lib.hid (ht.up (fun b hb => HUP.out b hb) (Nat.le_trans HS1.out HC.out.size))
    replace HC := Lib.hid (HC.out.trans (ht.below (fun b hb => HUP0.out b hb) (Nat.le_trans HS1.out HC.out.size)))
    replace HD := Lib.hid hd
    clear k0 k1 k2 k3 k4 ht hd HUP0
    obtain ⟨k0, k1, k2, k3, k4⟩ := geo_low HGE.out HC.out
    have hp : Geom.there G.U G.k G.p G.s 0 0 g 0 := ⟨by omega, (has0 HG.out).2.1, by omega, (has0 HG.out).2.2.2, by omega, by omega, by omega, HG.out.may.2.2.2.2.2.2.2.2.1⟩
    obtain ⟨a, ha⟩ : ∃ a, a = adr G 0 0 g 0 := ⟨_, rfl⟩
    have HAD := Lib.hid ha
    have hNU := num_in HG.out 0 0 g 0 a hp ha w7
    clear hp ha
    go_wp2_with fail
    refine hNU.mono ?_
    rintro e w8 ⟨rfl, hb⟩
    clear hNU
    replace HCA := Lib.hid (HCA.out.below hb)
    replace HD := Lib.hid (HD.out.below hb)
    replace HC := Lib.hid (HC.out.trans (hb.mono (Nat.le_trans HS1.out HC.out.size)))
    clear k0 k1 k2 k3 k4 hb
    obtain ⟨k0, k1, k2, k3, k4⟩ := geo_low HGE.out HC.out
    have hsb : 1 ≤ G.s ∧ G.s ≤ 4 := HG.out.may.2.2.2.2.2.2.2.2
    clear HN0 HR0 HOPS HNM
    go_wp2
    clear k0 k1 k2 k3 k4
    go_loopw [16] (fun i wr => ∃ j : Nat, j ≤ nm ∧ j ≤ 40 ∧ i = .int .i64 j ∧ ∃ (PP : Pl) (ss : St), PP.g = gd ∧ Dev G wr PP ss ∧ Kp G g (dats 77 (few G.s)) (oobs 77 false (few G.s)) ((j : Int) + 1) ss ∧ ss.off = false ∧ (∀ b, PP.own b → w.heap.size + 1 ≤ b) ∧ Below (w.heap.size + 1) w1 wr ∧ Came wr D A1 f A2 f (dats 77 f) (oobs 77 false f) ∧ (∀ b, D b → ¬ PP.own b)) (fun i _ => nm - (intOf i).toNat)
    case atStart => exact ⟨0, by omega, by omega, rfl, P2, st2, HGD.out, HD.out, HKP.out, HOFF.out, HUP.out, HC.out, HCA.out, HDN.out⟩
    case round =>
      rename World => wy
      obtain ⟨j, hj, hj4, rfl, PP, ss, hgd, hdd, hkd, hoffd, hud, hld, hcd, hnd⟩ := hrel
      clear HD HKP HOFF HUP HC HCA HDN
      replace HGD := Lib.hid hgd
      have HD0 := Lib.hid hdd
      have HKD := Lib.hid hkd
      have HUD := Lib.hid hud
      have HL0 := Lib.hid hld
      have HC0 := Lib.hid hcd
      have HN0 := Lib.hid hnd
      clear hgd hdd hkd hoffd hud hld hcd hnd
      by_cases hgo : j < nm ∧ j < 40
      rotate_left
      · have hstop : decide (j < nm) = false ∨ (decide (j < nm) = true ∧ decide ((j : Int) < 40) = false) := by
          by_cases h : j < nm
          · exact .inr ⟨by simpa using h, by have : ¬ j < 40 := fun h2 => hgo ⟨h, h2⟩; simp; omega⟩
          · exact .inl (by simpa using h)
        clear hgo
        rcases hstop with h1 | ⟨h1, h2⟩
        all_goals
          go_wp2
          go_ret
          exact ⟨rfl, HB.out.trans (HL0.out.mono (Nat.le_succ _))⟩
      obtain ⟨hlt1, hlt2⟩ := hgo
      obtain ⟨b7, o7, x0, x1, x2, x3, x4, odd, pxs, Ap, np, cp, rfl, hop⟩ := HOPM.out j hlt1
      have hopw := hop.keep (HB.out.trans (HL0.out.mono (Nat.le_succ _)))
      have HPW := Lib.hid hop.plan
      obtain ⟨q0, q1, q2, q3, q4, q5, q6, _, hnp, htop, _⟩ := hopw
      clear hop
      have hnp2 : np ≤ 9223372036854775807 := Nat.le_trans hnp htop
      clear htop
      obtain ⟨k0, k1, k2, k3, k4⟩ := geo_low HGE.out HL0.out
      go_upto_region 18 with fail
      refine at_wld ?_
      intro X hX
      have HBX : Hid (Below wy.heap.size wy X) := Lib.hid (by rw [hX]; exact (Below.refl _ _).alloc (Nat.le_refl _) _)
      have HBOX : Hid (X.heap[wy.heap.size]? = some (.cells #[.int .i64 x0, .int .i64 x1, .int .i64 x2, .int .i64 x3, .int .i64 x4, .bool odd, .slice Ap np cp] 49 (0, 0))) := Lib.hid (by rw [hX]; exact heap_alloc_new wy _)
      clear hX q0 q1 q2 q3 q4 q5 q6 k0 k1 k2 k3 k4
      have HLX := Lib.hid (HL0.out.trans (HBX.out.mono (Nat.le_trans HS1.out HL0.out.size)))
      obtain ⟨k0, k1, k2, k3, k4⟩ := geo_low HGE.out HLX.out
      obtain ⟨q0, q1, q2, q3, q4, q5, q6⟩ := seven HBOX.out
      go_wp2_with fail
      refine (Sectors_any G.c G.l G.k G.p G.s x4 odd X).mono ?_
      rintro e Y ⟨v8, v9, rfl, hs8, hs9, hb⟩
      obtain ⟨A8, c8, A9, c9, rfl, rfl, hc8, hcm8⟩ := came_sect hs8 hs9
      have HX8 := Lib.hid hcm8
      have HXN : Hid (∀ b, (X.heap.size ≤ b ∧ b < Y.heap.size) → ¬ PP.own b) := Lib.hid (fun b hb2 ho => by have h1 := HD0.out.lt b ho; have h2 := HBX.out.size; omega)
      have hbY := HBX.out.trans (hb.mono HBX.out.size)
      have HDO := Lib.hid (HD0.out.below hbY)
      have HLD := Lib.hid (HL0.out.trans (hbY.mono (Nat.le_trans HS1.out HL0.out.size)))
      have HCD := Lib.hid (HC0.out.below hbY)
      have HND := HN0
      clear q0 q1 q2 q3 q4 q5 q6 k0 k1 k2 k3 k4
      have hBY : Y.heap[wy.heap.size]? = some (.cells #[.int .i64 x0, .int .i64 x1, .int .i64 x2, .int .i64 x3, .int .i64 x4, .bool odd, .slice Ap np cp] 49 (0, 0)) := by
        rw [hb.block _ (Array.getElem?_eq_some_iff.1 HBOX.out).1]
        exact HBOX.out
      obtain ⟨q0, q1, q2, q3, q4, q5, q6⟩ := seven hBY
      obtain ⟨k0, k1, k2, k3, k4⟩ := geo_low HGE.out HLD.out
      have HPB : Hid (Bytes Y w.heap.size Ap np pxs) := Lib.hid (bytes_keep HPW.out (HB.out.trans (HLD.out.mono (Nat.le_succ _))))
      have HPL : Hid (w.heap.size ≤ Y.heap.size) := Lib.hid (HB.out.trans (HLD.out.mono (Nat.le_succ _))).size
      clear hs8 hs9 hb hcm8 hbY hBY HBOX HBX HLX HPW HL0 HC0 HD0 HN0
      go_upto_block 2 with fail
      go_cut [112] (fun _ wx => ∃ (PQ : Pl) (sq : St), PQ.g = gd ∧ Dev G wx PQ sq ∧ Kp G g (dats 77 (few G.s)) (oobs 77 false (few G.s)) ((j : Int) + 1 + 1) sq ∧ (∀ b, PQ.own b → w.heap.size + 1 ≤ b) ∧ Below (w.heap.size + 1) w1 wx ∧ Came wx D A1 f A2 f (dats 77 f) (oobs 77 false f) ∧ (∀ b, D b → ¬ PQ.own b))
      case first =>
        by_cases hd0 : x0 = 0
        · have e0 : (x0 == 0) = true := by simpa using hd0
          subst hd0
          have hP := Program_any HG.out HDO.out x1 x2 x3 A8 A9 (few G.s) (few G.s) c8 c9 (dats x4 (few G.s)) (oobs x4 odd (few G.s)) HX8.out HXN.out hc8 HKD.out.many0 (by have := HKD.out.many1; omega)
          rw [HGD.out] at hP
          go_wp2_with fail
          refine hP.mono ?_
          rintro e wq ⟨rfl, P9, hgq, hd, ht⟩
          clear hP
          have HDQ := Lib.hid hd
          have HGQ : Hid (P9.g = gd) := Lib.hid hgq
          have HKQ := Lib.hid (HKD.out.program HG.out (by omega) (by omega) x1 x2 x3 (dats x4 (few G.s)) (oobs x4 odd (few G.s)))
          have HUQ := Lib.hid (ht.up (fun b hb => HUD.out b hb) (Nat.le_trans HS1.out HLD.out.size))
          have HLQ := Lib.hid (HLD.out.trans (ht.below (fun b hb => HUD.out b hb) (Nat.le_trans HS1.out HLD.out.size)))
          have HCQ := Lib.hid (HCD.out.turn ht HND.out)
          have HNQ := Lib.hid (ht.apart (fun b hb => HCD.out.lt b hb) HND.out)
          clear hd ht hgq q0 q1 q2 q3 q4 q5 q6
          go_wp2_with fail
          go_meet
          exact ⟨_, _, HGQ.out, HDQ.out, HKQ.out, HUQ.out, HLQ.out, HCQ.out, HNQ.out⟩
        by_cases hd1 : x0 = 1
        · subst hd1
          have hP := Program_any HG.out HDO.out x1 x2 x3 A8 A9 (few G.s) (few G.s) c8 c9 (dats x4 (few G.s)) (oobs x4 odd (few G.s)) HX8.out HXN.out hc8 HKD.out.many0 (by have := HKD.out.many1; omega)
          rw [HGD.out] at hP
          go_wp2_with fail
          refine hP.mono ?_
          rintro e wq ⟨rfl, P9, hgq, hd, ht⟩
          clear hP
          have HDQ := Lib.hid hd
          have HGQ : Hid (P9.g = gd) := Lib.hid hgq
          have HKQ := Lib.hid (HKD.out.program HG.out (by omega) (by omega) x1 x2 x3 (dats x4 (few G.s)) (oobs x4 odd (few G.s)))
          have HUQ := Lib.hid (ht.up (fun b hb => HUD.out b hb) (Nat.le_trans HS1.out HLD.out.size))
          have HLQ := Lib.hid (HLD.out.trans (ht.below (fun b hb => HUD.out b hb) (Nat.le_trans HS1.out HLD.out.size)))
          have HCQ := Lib.hid (HCD.out.turn ht HND.out)
          have HNQ := Lib.hid (ht.apart (fun b hb => HCD.out.lt b hb) HND.out)
          clear hd ht hgq q0 q1 q2 q3 q4 q5 q6
          go_wp2_with fail
          go_meet
          exact ⟨_, _, HGQ.out, HDQ.out, HKQ.out, HUQ.out, HLQ.out, HCQ.out, HNQ.out⟩
        have e0 : (x0 == 0) = false := by simpa using hd0
        have e1 : (x0 == 1) = false := by simpa using hd1
        by_cases hd2 : x0 = 2
        · subst hd2
          by_cases hz : x1 = 0 ∧ x2 = 0
          · obtain ⟨rfl, rfl⟩ := hz
            have HDQ := Lib.hid HDO.out
            have HGQ := HGD
            have HKQ := Lib.hid (HKD.out.more (m' := (j : Int) + 1 + 1) (by omega))
            have HUQ := Lib.hid HUD.out
            have HLQ := Lib.hid HLD.out
            have HCQ := Lib.hid HCD.out
            have HNQ := Lib.hid HND.out
            go_wp2_with fail
            go_meet
            exact ⟨_, _, HGQ.out, HDQ.out, HKQ.out, HUQ.out, HLQ.out, HCQ.out, HNQ.out⟩
          · by_cases hx1 : x1 = 0
            · have hx2 : (x2 == 0) = false := by simpa using (fun h => hz ⟨hx1, h⟩ : ¬ x2 = 0)
              subst hx1
              have HKE := Lib.hid (HKD.out.erase HG.out (by omega) (by omega) 0 x2 hz)
              have hE := Erase_any HG.out HDO.out 0 x2 HKD.out.many0 (by have := HKD.out.many1; omega)
              rw [HGD.out] at hE
              go_wp2_with fail
              refine hE.mono ?_
              rintro e wq ⟨rfl, hd, ht⟩
              have hgq := HGD.out
              clear hE
              have HDQ := Lib.hid hd
              have HGQ : Hid (PP.g = gd) := Lib.hid hgq
              have HKQ := Lib.hid (HKE.out)
              have HUQ := Lib.hid (ht.up (fun b hb => HUD.out b hb) (Nat.le_trans HS1.out HLD.out.size))
              have HLQ := Lib.hid (HLD.out.trans (ht.below (fun b hb => HUD.out b hb) (Nat.le_trans HS1.out HLD.out.size)))
              have HCQ := Lib.hid (HCD.out.turn ht HND.out)
              have HNQ := Lib.hid (ht.apart (fun b hb => HCD.out.lt b hb) HND.out)
              clear hd ht hgq q0 q1 q2 q3 q4 q5 q6
              go_wp2_with fail
              go_meet
              exact ⟨_, _, HGQ.out, HDQ.out, HKQ.out, HUQ.out, HLQ.out, HCQ.out, HNQ.out⟩
            · have hx1b : (x1 == 0) = false := by simpa using hx1
              have HKE := Lib.hid (HKD.out.erase HG.out (by omega) (by omega) x1 x2 hz)
              have hE := Erase_any HG.out HDO.out x1 x2 HKD.out.many0 (by have := HKD.out.many1; omega)
              rw [HGD.out] at hE
              go_wp2_with fail
              refine hE.mono ?_
              rintro e wq ⟨rfl, hd, ht⟩
              have hgq := HGD.out
              clear hE
              have HDQ := Lib.hid hd
              have HGQ : Hid (PP.g = gd) := Lib.hid hgq
              have HKQ := Lib.hid (HKE.out)
              have HUQ := Lib.hid (ht.up (fun b hb => HUD.out b hb) (Nat.le_trans HS1.out HLD.out.size))
              have HLQ := Lib.hid (HLD.out.trans (ht.below (fun b hb => HUD.out b hb) (Nat.le_trans HS1.out HLD.out.size)))
              have HCQ := Lib.hid (HCD.out.turn ht HND.out)
              have HNQ := Lib.hid (ht.apart (fun b hb => HCD.out.lt b hb) HND.out)
              clear hd ht hgq q0 q1 q2 q3 q4 q5 q6
              go_wp2_with fail
              go_meet
              exact ⟨_, _, HGQ.out, HDQ.out, HKQ.out, HUQ.out, HLQ.out, HCQ.out, HNQ.out⟩
        have e2 : (x0 == 2) = false := by simpa using hd2
        by_cases hd4 : x0 = 4
        · subst hd4
          have hE := Retire_any HG.out HDO.out x1 x2
          rw [HGD.out] at hE
          go_wp2_with fail
          refine hE.mono ?_
          rintro e wq ⟨rfl, hd, ht⟩
          have hgq := HGD.out
          clear hE
          have HDQ := Lib.hid hd
          have HGQ : Hid (PP.g = gd) := Lib.hid hgq
          have HKQ := Lib.hid ((HKD.out.retire x1 x2).more (m' := (j : Int) + 1 + 1) (by omega))
          have HUQ := Lib.hid (ht.up (fun b hb => HUD.out b hb) (Nat.le_trans HS1.out HLD.out.size))
          have HLQ := Lib.hid (HLD.out.trans (ht.below (fun b hb => HUD.out b hb) (Nat.le_trans HS1.out HLD.out.size)))
          have HCQ := Lib.hid (HCD.out.turn ht HND.out)
          have HNQ := Lib.hid (ht.apart (fun b hb => HCD.out.lt b hb) HND.out)
          clear hd ht hgq q0 q1 q2 q3 q4 q5 q6
          go_wp2_with fail
          go_meet
          exact ⟨_, _, HGQ.out, HDQ.out, HKQ.out, HUQ.out, HLQ.out, HCQ.out, HNQ.out⟩
        have e4 : (x0 == 4) = false := by simpa using hd4
        by_cases hd5 : x0 = 5
        · subst hd5
          by_cases hp100 : np ≤ 100
          · have hp1 : ((np : Nat) : Int) ≤ 100 := by omega
            have hE := Plan_any HDO.out Ap np cp (w.heap.size) pxs (by omega) HPB.out HPL.out
            rw [HGD.out] at hE
            go_wp2_with fail
            refine hE.mono ?_
            rintro e wq ⟨rfl, P9, hgq, hd, ht⟩
            clear hE
            have HDQ := Lib.hid hd
            have HGQ : Hid (P9.g = gd) := Lib.hid hgq
            have HKQ := Lib.hid ((HKD.out.plan pxs (by omega)).more (m' := (j : Int) + 1 + 1) (by omega))
            have HUQ := Lib.hid (ht.up (fun b hb => HUD.out b hb) (Nat.le_trans HS1.out HLD.out.size))
            have HLQ := Lib.hid (HLD.out.trans (ht.below (fun b hb => HUD.out b hb) (Nat.le_trans HS1.out HLD.out.size)))
            have HCQ := Lib.hid (HCD.out.turn ht HND.out)
            have HNQ := Lib.hid (ht.apart (fun b hb => HCD.out.lt b hb) HND.out)
            clear hd ht hgq q0 q1 q2 q3 q4 q5 q6
            go_wp2_with fail
            go_meet
            exact ⟨_, _, HGQ.out, HDQ.out, HKQ.out, HUQ.out, HLQ.out, HCQ.out, HNQ.out⟩
          · have hp1 : ¬ ((np : Nat) : Int) ≤ 100 := by omega
            have HDQ := Lib.hid HDO.out
            have HGQ := HGD
            have HKQ := Lib.hid (HKD.out.more (m' := (j : Int) + 1 + 1) (by omega))
            have HUQ := Lib.hid HUD.out
            have HLQ := Lib.hid HLD.out
            have HCQ := Lib.hid HCD.out
            have HNQ := Lib.hid HND.out
            go_wp2_with fail
            go_meet
            exact ⟨_, _, HGQ.out, HDQ.out, HKQ.out, HUQ.out, HLQ.out, HCQ.out, HNQ.out⟩
        have e5 : (x0 == 5) = false := by simpa using hd5
        have HDQ := Lib.hid HDO.out
        have HGQ := HGD
        have HKQ := Lib.hid (HKD.out.more (m' := (j : Int) + 1 + 1) (by omega))
        have HUQ := Lib.hid HUD.out
        have HLQ := Lib.hid HLD.out
        have HCQ := Lib.hid HCD.out
        have HNQ := Lib.hid HND.out
        go_wp2_with fail
        go_meet
        exact ⟨_, _, HGQ.out, HDQ.out, HKQ.out, HUQ.out, HLQ.out, HCQ.out, HNQ.out⟩
      case rest =>
        obtain ⟨PQ, sq, r1, r2, r3, r4, r5, r6, r7⟩ := hcut
        rename World => wd
        have HGQ := Lib.hid r1
        have HDQ := Lib.hid r2
        have HKQ := Lib.hid r3
        have HUQ := Lib.hid r4
        have HLQ := Lib.hid r5
        have HCQ := Lib.hid r6
        have HNQ := Lib.hid r7
        clear r1 r2 r3 r4 r5 r6 r7 q0 q1 q2 q3 q4 q5 q6
        have hPW := Power_any HDQ.out
        rw [HGQ.out] at hPW
        go_wp2_with fail
        refine hPW.mono ?_
        rintro e wp ⟨rfl, hd, ht⟩
        have HCA1 := Lib.hid (HCQ.out.turn ht HNQ.out)
        have HNQ1 := Lib.hid (ht.apart (fun b hb => HCQ.out.lt b hb) HNQ.out)
        have HLQ1 := Lib.hid (HLQ.out.trans (ht.below (fun b hb => HUQ.out b hb) (Nat.le_trans HS1.out HLQ.out.size)))
        have HUQ1 := Lib.hid (ht.up (fun b hb => HUQ.out b hb) (Nat.le_trans HS1.out HLQ.out.size))
        have HD1 := Lib.hid hd
        have HK1 := Lib.hid HKQ.out.power
        clear hPW hd ht HCQ HNQ HLQ HUQ HDQ HKQ k0 k1 k2 k3 k4
        obtain ⟨k0, k1, k2, k3, k4⟩ := geo_low HGE.out HLQ1.out
        go_wp2
        clear k0 k1 k2 k3 k4
        go_loopw [20] (fun i wr => ∃ k : Nat, (k : Int) ≤ G.s ∧ i = .int .i64 k ∧ Below wp.heap.size wp wr) (fun i _ => (G.s - intOf i).toNat)
        case atStart => exact ⟨0, by omega, rfl, Below.refl _ _⟩
        case round =>
          rename World => wx
          obtain ⟨k, hk, rfl, hb⟩ := hrel
          have HBW := Lib.hid hb
          clear hb
          have HCW := Lib.hid (HLQ1.out.trans (HBW.out.mono (Nat.le_trans HS1.out HLQ1.out.size)))
          obtain ⟨k0, k1, k2, k3, k4⟩ := geo_low HGE.out HCW.out
          by_cases hlt : (k : Int) < G.s
          · have hR := Read_any HG.out (HD1.out.below HBW.out) (a + k)
            rw [HK1.out.reads HG.out (by omega) (by omega) rfl HAD.out k hlt, HGQ.out] at hR
            have hab := Geom.parts_bd HG.out (show Geom.there G.U G.k G.p G.s 0 0 g k from ⟨by omega, (has0 HG.out).2.1, by omega, (has0 HG.out).2.2.2, by omega, by omega, by omega, hlt⟩)
            have hwa : wrap64 (a + k) = a + k := by
              have e : a + k = 0 * G.L + g * G.R + 0 * G.s + k := by rw [HAD.out]; unfold adr; omega
              exact wrap_is (by omega) (by omega)
            clear hab
            have HR := Lib.hid hR
            clear hR
            go_wp2_with fail
            refine HR.out.mono ?_
            rintro e w15 ⟨v5, v6, rfl, ho5, ho6, hb⟩
            obtain ⟨A5, c5, rfl, hr5⟩ := ho5.reads
            obtain ⟨A6, c6, rfl, hr6⟩ := ho6.reads
            simp only at hr5 hr6 ⊢
            have HCM := HCA1.out.below (HBW.out.trans (hb.mono HBW.out.size))
            have hkf : k < f := by rw [HF.out]; exact few_lt hlt hsb
            obtain ⟨b1, o1, B1, n1, e1, xs, rfl, _, hc1', hn1, hl1, hx1⟩ := HCM.dat.at_ hkf
            obtain ⟨b2, o2, B2, n2, e2, ys, rfl, _, hc2', hn2, hl2, hx2⟩ := HCM.oob.at_ hkf
            have e5 : (dats 77 (few G.s)).getD k [] = xs := by rw [List.getD_eq_getElem?_getD, ← HF.out, hx1]; rfl
            have e6 : (oobs 77 false (few G.s)).getD k [] = ys := by rw [List.getD_eq_getElem?_getD, ← HF.out, hx2]; rfl
            rw [e5] at hr5 ⊢
            rw [e6] at hr6 ⊢
            have hs1 := run_strs (P := Try.prog) w15 47 9 5 Try.underlying47 Try.underlying5 Try.underlying9 (c := c5) hr5
            have hs2 := run_strs (P := Try.prog) w15 47 9 5 Try.underlying47 Try.underlying5 Try.underlying9 (c := c6) hr6
            have hs3 := run_strs (P := Try.prog) w15 47 9 5 Try.underlying47 Try.underlying5 Try.underlying9 (c := e1) (hl1.bytes (B := w15.heap.size) (fun b hb => HCM.lt b hb))
            have hs4 := run_strs (P := Try.prog) w15 47 9 5 Try.underlying47 Try.underlying5 Try.underlying9 (c := e2) (hl2.bytes (B := w15.heap.size) (fun b hb => HCM.lt b hb))
            have hq1 := str_eq (rfl : xs = xs)
            have hq2 := str_eq (rfl : ys = ys)
            replace HBW := Lib.hid (HBW.out.trans (hb.mono HBW.out.size))
            have hkf2 : (k : Int) < (f : Int) := by omega
            clear ho5 ho6 hr5 hr6 hb hl1 hl2 hx1 hx2 e5 e6 HR k0 k1 k2 k3 k4 HCM HCW
            go_wp2
            go_quiet (fail)
            go_wp2
            go_roundw
            case rel => exact ⟨k + 1, by omega, by go_num, below_draws HBW.out _⟩
            case measure => simp [intOf]; omega
          · go_wp2
            go_roundw
            case rel => exact ⟨j + 1, by omega, by omega, by go_num, _, _, HGQ.out, HD1.out.below HBW.out, by have h := HK1.out; rw [show (((j + 1 : Nat) : Int) + 1) = (j : Int) + 1 + 1 by omega]; exact h, rfl, HUQ1.out, HCW.out, HCA1.out.below HBW.out, HNQ1.out⟩
            case measure => simp [intOf]; omega


theorem own : ownKnob Try.prog.godebug = none := by kernel_rfl
theorem laid : laidOutB Try.prog = true := by kernel_rfl

set_option maxRecDepth 100000 in
theorem lifted (os : Os) (started : os.Started) (H : Type) (enc : TypeId × Value → H) :
    ReturnsInHanded {} Try.checked os 5 .any (Rows.nandKeepsSpec.pre6 enc Try.prog Try.f5 Rows.nandKeepsRow.domain false) (Rows.nandKeepsSpec.post enc Try.prog Try.f5 false true false false) := by
  refine returnsInHanded_of_change (C := Try.checked) own started (by kernel_rfl) Try.func5
    (ChangeSpec.witness6 (enc := enc) (C := Try.checked) false ⟨#[], #[.agg #[.int .i64 0, .int .i64 0, .int .i64 0, .int .i64 0, .int .i64 0], .slice none 0 0, .slice none 0 0], []⟩ 8 (by kernel_rfl) (by kernel_rfl) (by kernel_rfl) (by kernel_rfl)) ?_
  intro W base args ds gs before hval0 hW _ _
  have hval : ∀ (j : Nat) t v, Try.f5.params[j]? = some t → args[j]? = some v → Value.okWide Try.prog W .any base t v := hval0
  have hW' := hW
  obtain ⟨p, q, hA0, hV, rfl, hfz, hnd⟩ := hW
  have hA : DataW.TrodAll enc Try.prog W 0 (fun _ => true) true Try.f5.params.toList args.toList ds p := hA0
  rw [Try.params5] at hA hval
  obtain ⟨v0, v1, v2, d0, d1, d2, p0, p1, p2, rfl, rfl, rfl, h0, h1, h2⟩ := trodAll_three hA
  obtain ⟨c0, l0, k0, q0, s0, rfl⟩ := open_geo Try.underlying23 rfl (by kernel_rfl) (by kernel_rfl) (hval 0 23 v0 rfl rfl) h0
  obtain ⟨A1, n1, c1, rfl, hnc1, hcm1, hr1⟩ := NandOps.open_ops (hval 1 45 v1 rfl rfl) h1
  obtain ⟨A2, n2, c2, rfl, hnc2, hcm2, hr2⟩ := NandOps.open_ops (hval 2 45 v2 rfl rfl) h2
  refine (walk c0 l0 k0 q0 s0 A1 n1 c1 A2 n2 c2 W hnc1 hcm1 hr1 hnc2 hcm2 hr2).mono fun e W' ⟨he, hb⟩ => ?_
  subst he
  exact ⟨_, rfl, Law.post laid (by kernel_rfl) (by kernel_rfl) Try.underlying4 rfl hW' rfl hb⟩

theorem proved : Rows.NandKeepsSaid :=
  OpenClaim.holds_of_wide 5 Try.f5 rfl rfl rfl rfl rfl rfl rfl ⟨rfl, rfl, rfl, rfl, rfl⟩ rfl rfl rfl rfl rfl (by kernel_rfl) Try.func5 (by kernel_rfl)
    (of_decide_eq_true (by kernel_rfl)) (by unfold Func.isWrapper; first | (rw [if_pos (by decide +kernel)]; kernel_rfl) | (rw [if_neg (by decide +kernel)]; exact ⟨rfl, rfl⟩))
    (fun os started H enc _ => lifted os started H enc)

end Go.Proofs.Ytomhmoihkbmhiaa.nandKeeps
