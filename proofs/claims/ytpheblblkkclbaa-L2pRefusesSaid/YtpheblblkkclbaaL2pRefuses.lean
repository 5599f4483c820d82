/-
  L2pRefuses holds: what is refused, or older, changes nothing; what is moved keeps its stamp and kind; for every geometry, all calls and every call behind them. No condition.
-/
import Derived.Test.YtpheblblkkclbaaL2pKit
import Derived.Test.YtpheblblkkclbaaLawKit
import Derived.OpenShut
import Derived.Test.YtpheblblkkclbaaL2pOps
import Derived.Deep.RegionHeld3
namespace Go.Proofs.Ytpheblblkkclbaa.l2pRefuses
open Go.RowKit Go.ChangeShapes Go.WideShapes L2p L2pPkg L2pLaw
open Nand (Shape)
set_option maxRecDepth 4000

theorem opc {w : World} {B b o : Nat} {x0 x1 x2 x3 x4 x5 x6 : Int} (h : L2pOps.OpAt w B b o x0 x1 x2 x3 x4 x5 x6) : w.cell? ⟨b, o + 1, none⟩ = some (.int .i64 x1) ∧ w.cell? ⟨b, o + 4, none⟩ = some (.int .i64 x4) ∧ w.cell? ⟨b, o + 4 + 1, none⟩ = some (.int .i64 x5) ∧ w.cell? ⟨b, o + 4 + 2, none⟩ = some (.int .i64 x6) := ⟨h.c1, h.c4, h.c5, h.c6⟩
theorem opm {w : World} {B b o : Nat} {x0 x1 x2 x3 x4 x5 x6 : Int} (h : L2pOps.OpAt w B b o x0 x1 x2 x3 x4 x5 x6) : w.cell? ⟨b, o + 1, none⟩ = some (.int .i64 x1) ∧ w.cell? ⟨b, o + 2, none⟩ = some (.int .i64 x2) ∧ w.cell? ⟨b, o + 3, none⟩ = some (.int .i64 x3) := ⟨h.c1, h.c2, h.c3⟩
/-- What stands beside a map is stored into. -/
theorem store_side {G : Shape} {n : Nat} {a w : World} {gd : Nat} {st : St} {F : Nat} {o : Array Value} {t : TypeId} (h : Mine G n a gd st [(F, .cells o t (0, 0))] w) (hF : a.heap.size ≤ F) (i : Nat) (v : Value) : Mine G n a gd st [(F, .cells (o.setIfInBounds i v) t (0, 0))] (w.setCell ⟨F, i, none⟩ v) := by
  obtain ⟨P, h1, h2, h3, h4, h5⟩ := h
  obtain ⟨h6, h7⟩ := h5 _ (.head _)
  refine ⟨P, h1, h2.keep fun b hb => Below.heap_setCell _ _ _ _ (fun e => h6 (by have e2 : b = F := e; rw [e2] at hb; exact hb)), h3, h4.setCell hF _, fun q hq => ?_⟩
  rw [List.mem_singleton.1 hq]
  exact ⟨h6, by simp [World.setCell, Array.getElem?_modify, h7]⟩

/-- The cells of six entries, of which the first k are laid. -/
def comp (e : Ent) (r : Nat) : Value := if r = 0 then .int .i64 e.a else if r = 1 then .int .i64 e.s else .int .i64 e.k
def wasF (st : St) (k j : Nat) : Value := if j < k * 3 then comp (st (j / 3)) (j % 3) else .int .i64 0
def Row (o : Array Value) (st : St) (k : Nat) : Prop := o.size = 18 ∧ ∀ j, j < 18 → o[j]? = some (wasF st k j)

theorem Row.cell {o : Array Value} {st : St} {k : Nat} (h : Row o st k) {w : World} {F : Nat} {t : TypeId} (hb : w.heap[F]? = some (.cells o t (0, 0))) {j : Nat} (hj : j < 18) : w.cell? ⟨F, j, none⟩ = some (wasF st k j) ∧ w.frozen? ⟨F, j, none⟩ = false := by
  constructor
  · simp [World.cell?, hb, h.2 j hj]
  · simp [World.frozen?, hb]

theorem Row.zero (st : St) : Row #[.int .i64 0, .int .i64 0, .int .i64 0, .int .i64 0, .int .i64 0, .int .i64 0, .int .i64 0, .int .i64 0, .int .i64 0, .int .i64 0, .int .i64 0, .int .i64 0, .int .i64 0, .int .i64 0, .int .i64 0, .int .i64 0, .int .i64 0, .int .i64 0] st 0 := by
  refine ⟨rfl, fun j hj => ?_⟩
  have : wasF st 0 j = .int .i64 0 := by unfold wasF; rw [if_neg (by omega)]
  rw [this]
  have e : (#[.int .i64 0, .int .i64 0, .int .i64 0, .int .i64 0, .int .i64 0, .int .i64 0, .int .i64 0, .int .i64 0, .int .i64 0, .int .i64 0, .int .i64 0, .int .i64 0, .int .i64 0, .int .i64 0, .int .i64 0, .int .i64 0, .int .i64 0, .int .i64 0] : Array Value) = Array.replicate 18 (.int .i64 0) := rfl
  rw [e]
  simp [hj]

theorem Row.step {o : Array Value} {st : St} {k : Nat} (h : Row o st k) (hk : k < 6) : Row (((o.setIfInBounds (k * 3) (.int .i64 (st k).a)).setIfInBounds (k * 3 + 1) (.int .i64 (st k).s)).setIfInBounds (k * 3 + 2) (.int .i64 (st k).k)) st (k + 1) := by
  refine ⟨by simp [h.1], fun j hj => ?_⟩
  have hs := h.1
  rw [Array.getElem?_setIfInBounds, Array.getElem?_setIfInBounds, Array.getElem?_setIfInBounds]
  simp only [Array.size_setIfInBounds, hs]
  have hw : wasF st (k + 1) j = if j < (k + 1) * 3 then comp (st (j / 3)) (j % 3) else .int .i64 0 := rfl
  by_cases e2 : k * 3 + 2 = j
  · rw [if_pos e2, if_pos (by omega), hw, if_pos (by omega), show j / 3 = k by omega, show j % 3 = 2 by omega]
    rfl
  · rw [if_neg e2]
    by_cases e1 : k * 3 + 1 = j
    · rw [if_pos e1, if_pos (by omega), hw, if_pos (by omega), show j / 3 = k by omega, show j % 3 = 1 by omega]
      rfl
    · rw [if_neg e1]
      by_cases e0 : k * 3 = j
      · rw [if_pos e0, if_pos (by omega), hw, if_pos (by omega), show j / 3 = k by omega, show j % 3 = 0 by omega]
        rfl
      · rw [if_neg e0, h.2 j hj, hw]
        unfold wasF
        by_cases h3 : j < k * 3
        · rw [if_pos h3, if_pos (by omega)]
        · rw [if_neg h3, if_neg (by omega)]

theorem wasF_0 (st : St) {i : Nat} (hi : i < 6) : wasF st 6 (i * 3) = .int .i64 (st i).a := by
  unfold wasF
  rw [if_pos (by omega), show i * 3 / 3 = i by omega, show i * 3 % 3 = 0 by omega]
  rfl
theorem wasF_1 (st : St) {i : Nat} (hi : i < 6) : wasF st 6 (i * 3 + 1) = .int .i64 (st i).s := by
  unfold wasF
  rw [if_pos (by omega), show (i * 3 + 1) / 3 = i by omega, show (i * 3 + 1) % 3 = 1 by omega]
  rfl
theorem wasF_2 (st : St) {i : Nat} (hi : i < 6) : wasF st 6 (i * 3 + 2) = .int .i64 (st i).k := by
  unfold wasF
  rw [if_pos (by omega), show (i * 3 + 2) / 3 = i by omega, show (i * 3 + 2) % 3 = 2 by omega]
  rfl

/-- The cells of a boxed op. -/
abbrev OpBox (w : World) (b : Nat) (y0 y1 y2 y3 y4 y5 y6 : Int) : Prop := w.cell? ⟨b, 0, none⟩ = some (.int .i64 y0) ∧ w.cell? ⟨b, 1, none⟩ = some (.int .i64 y1) ∧ w.cell? ⟨b, 2, none⟩ = some (.int .i64 y2) ∧ w.cell? ⟨b, 3, none⟩ = some (.int .i64 y3) ∧ w.cell? ⟨b, 4, none⟩ = some (.int .i64 y4) ∧ w.cell? ⟨b, 4 + 1, none⟩ = some (.int .i64 y5) ∧ w.cell? ⟨b, 4 + 2, none⟩ = some (.int .i64 y6)
theorem opbox_on {w w' : World} {B b : Nat} {y0 y1 y2 y3 y4 y5 y6 : Int} (h : OpBox w b y0 y1 y2 y3 y4 y5 y6) (hb : b < B) (hk : Below B w w') : OpBox w' b y0 y1 y2 y3 y4 y5 y6 := by
  have hc : ∀ i v, w.cell? ⟨b, i, none⟩ = some v → w'.cell? ⟨b, i, none⟩ = some v := fun i v hv => (hk.cell (p := ⟨b, i, none⟩) hb).trans hv
  exact ⟨hc _ _ h.1, hc _ _ h.2.1, hc _ _ h.2.2.1, hc _ _ h.2.2.2.1, hc _ _ h.2.2.2.2.1, hc _ _ h.2.2.2.2.2.1, hc _ _ h.2.2.2.2.2.2⟩

set_option maxHeartbeats 8000000 in
theorem walk (c l k p s : Int) (A : Option Addr) (m cp : Nat) (y0 y1 y2 y3 y4 y5 y6 : Int) (w : World) (hmc : m ≤ cp) (hcm : cp ≤ maxLen) (hr : L2pOps.Ops w w.heap.size A m) :
    Calls Try.prog 7 #[.agg #[.int .i64 c, .int .i64 l, .int .i64 k, .int .i64 p, .int .i64 s], .slice A m cp, .agg #[.int .i64 y0, .int .i64 y1, .int .i64 y2, .int .i64 y3, .int .i64 y4, .int .i64 y5, .int .i64 y6]] w fun e w' => e = .returned (.bool true) ∧ Below w.heap.size w w' := by
  have HOPS := Lib.hid hr
  have hn := Nat.le_trans hmc hcm
  clear hr hmc hcm
  unfold maxLen at hn
  by_cases hok : Geom.ok c l k p s
  rotate_left
  · have HN := Lib.hid (fun w => New_geo c l k p s hok 6 w)
    clear hok
    obtain ⟨og, hog⟩ : ∃ o, o = Obj.cells #[.int .i64 c, .int .i64 l, .int .i64 k, .int .i64 p, .int .i64 s] 23 := ⟨_, rfl⟩
    obtain ⟨ox, hox⟩ : ∃ o, o = Obj.cells #[.int .i64 y0, .int .i64 y1, .int .i64 y2, .int .i64 y3, .int .i64 y4, .int .i64 y5, .int .i64 y6] 41 := ⟨_, rfl⟩
    obtain ⟨a, ha⟩ : ∃ a, a = (w.alloc og).alloc ox := ⟨_, rfl⟩
    have hwa : Below w.heap.size w a := by rw [ha]; exact ((Below.refl _ _).alloc (Nat.le_refl _) _).alloc (by simp) _
    have hgeo : Geo a w.heap.size c l k p s := by rw [ha, hog]; exact geo_keep (geo_new w _ _ _ _ _ _) ((Below.refl _ _).alloc (Nat.le_refl _) _)
    have hx : OpBox a (w.heap.size + 1) y0 y1 y2 y3 y4 y5 y6 := by
      have e : w.heap.size + 1 = (w.alloc og).heap.size := by simp
      rw [ha, hox, e]
      refine ⟨?_, ?_, ?_, ?_, ?_, ?_, ?_⟩ <;> simp [World.cell?_alloc_at]
    have HWA := Lib.hid hwa
    have HGEO := Lib.hid hgeo
    have HX := Lib.hid hx
    have HA0 := Lib.hid ha
    have HAW := Lib.hid (fun w => awake_any w)
    clear hwa hgeo hx ha
    go_enter Try.func7, Try.ntmps7
    go_wp2_with fail
    rw [← hog, ← hox, ← HA0.out]
    refine (HAW.out a).mono ?_
    rintro e1 wa ⟨rfl, hb⟩
    have HA := Lib.hid hb
    clear hb
    obtain ⟨k0, k1, k2, k3, k4⟩ := geo_keep HGEO.out HA.out
    go_wp2_with fail
    refine (HN.out _).mono ?_
    rintro e2 w2 ⟨rfl, hb⟩
    have HB2 := Lib.hid (HWA.out.trans ((below_then HA.out hb).mono HWA.out.size))
    clear hb
    go_wp2
    go_ret
    exact ⟨rfl, HB2.out⟩
  obtain ⟨G, hG, rfl, rfl, rfl, rfl, rfl⟩ : ∃ G : Shape, G.Ok ∧ G.c = c ∧ G.l = l ∧ G.k = k ∧ G.p = p ∧ G.s = s := ⟨⟨c, l, k, p, s, _, _, _, _⟩, Geom.sizes hok, rfl, rfl, rfl, rfl, rfl⟩
  clear hok
  by_cases hnN : (6 : Int) ≤ G.N
  rotate_left
  · have HN := Lib.hid (fun w => New_num hG 6 (by omega) w)
    clear hG hnN
    obtain ⟨og, hog⟩ : ∃ o, o = Obj.cells #[.int .i64 G.c, .int .i64 G.l, .int .i64 G.k, .int .i64 G.p, .int .i64 G.s] 23 := ⟨_, rfl⟩
    obtain ⟨ox, hox⟩ : ∃ o, o = Obj.cells #[.int .i64 y0, .int .i64 y1, .int .i64 y2, .int .i64 y3, .int .i64 y4, .int .i64 y5, .int .i64 y6] 41 := ⟨_, rfl⟩
    obtain ⟨a, ha⟩ : ∃ a, a = (w.alloc og).alloc ox := ⟨_, rfl⟩
    have hwa : Below w.heap.size w a := by rw [ha]; exact ((Below.refl _ _).alloc (Nat.le_refl _) _).alloc (by simp) _
    have hgeo : Geo a w.heap.size G.c G.l G.k G.p G.s := by rw [ha, hog]; exact geo_keep (geo_new w _ _ _ _ _ _) ((Below.refl _ _).alloc (Nat.le_refl _) _)
    have hx : OpBox a (w.heap.size + 1) y0 y1 y2 y3 y4 y5 y6 := by
      have e : w.heap.size + 1 = (w.alloc og).heap.size := by simp
      rw [ha, hox, e]
      refine ⟨?_, ?_, ?_, ?_, ?_, ?_, ?_⟩ <;> simp [World.cell?_alloc_at]
    have HWA := Lib.hid hwa
    have HGEO := Lib.hid hgeo
    have HX := Lib.hid hx
    have HA0 := Lib.hid ha
    have HAW := Lib.hid (fun w => awake_any w)
    clear hwa hgeo hx ha
    go_enter Try.func7, Try.ntmps7
    go_wp2_with fail
    rw [← hog, ← hox, ← HA0.out]
    refine (HAW.out a).mono ?_
    rintro e1 wa ⟨rfl, hb⟩
    have HA := Lib.hid hb
    clear hb
    obtain ⟨k0, k1, k2, k3, k4⟩ := geo_keep HGEO.out HA.out
    go_wp2_with fail
    refine (HN.out _).mono ?_
    rintro e2 w2 ⟨rfl, hb⟩
    have HB2 := Lib.hid (HWA.out.trans ((below_then HA.out hb).mono HWA.out.size))
    clear hb
    go_wp2
    go_ret
    exact ⟨rfl, HB2.out⟩
  obtain ⟨og, hog⟩ : ∃ o, o = Obj.cells #[.int .i64 G.c, .int .i64 G.l, .int .i64 G.k, .int .i64 G.p, .int .i64 G.s] 23 := ⟨_, rfl⟩
  obtain ⟨ox, hox⟩ : ∃ o, o = Obj.cells #[.int .i64 y0, .int .i64 y1, .int .i64 y2, .int .i64 y3, .int .i64 y4, .int .i64 y5, .int .i64 y6] 41 := ⟨_, rfl⟩
  obtain ⟨a, ha⟩ : ∃ a, a = (w.alloc og).alloc ox := ⟨_, rfl⟩
  have hwa : Below w.heap.size w a := by rw [ha]; exact ((Below.refl _ _).alloc (Nat.le_refl _) _).alloc (by simp) _
  have hgeo : Geo a w.heap.size G.c G.l G.k G.p G.s := by rw [ha, hog]; exact geo_keep (geo_new w _ _ _ _ _ _) ((Below.refl _ _).alloc (Nat.le_refl _) _)
  have hx : OpBox a (w.heap.size + 1) y0 y1 y2 y3 y4 y5 y6 := by
    have e : w.heap.size + 1 = (w.alloc og).heap.size := by simp
    rw [ha, hox, e]
    refine ⟨?_, ?_, ?_, ?_, ?_, ?_, ?_⟩ <;> simp [World.cell?_alloc_at]
  have HWA := Lib.hid hwa
  have HGEO := Lib.hid hgeo
  have HX := Lib.hid hx
  have HA0 := Lib.hid ha
  have HAW := Lib.hid (fun w => awake_any w)
  clear hwa hgeo hx ha
  have hwas : w.heap.size + 1 < a.heap.size := World.block_lt_of_cell? _ _ HX.out.1
  have HD := Lib.hid (fun (w' : World) (hb : Below a.heap.size a w') => opbox_on HX.out hwas hb)
  have HG := Lib.hid hG
  have hnb := hG.n1
  have HNN := Lib.hid hnN
  clear hG
  go_enter Try.func7, Try.ntmps7
  go_wp2_with fail
  rw [← hog, ← hox, ← HA0.out]
  refine (HAW.out a).mono ?_
  rintro e1 wa ⟨rfl, hb⟩
  have HA := Lib.hid hb
  clear hb
  obtain ⟨k0, k1, k2, k3, k4⟩ := geo_keep HGEO.out HA.out
  have HN := Lib.hid (New_m HG.out a wa HA.out 6 (by omega) (by omega) hnN)
  clear hnN
  go_wp2_with fail
  refine HN.out.mono ?_
  rintro e2 w2 ⟨gd, rfl, h⟩
  have H := Lib.hid h
  clear h k0 k1 k2 k3 k4 HN
  have HBW := Lib.hid (fun (w' : World) (hb : Below a.heap.size a w') => show Below w.heap.size w w' from HWA.out.trans (hb.mono HWA.out.size))
  go_wp2
  go_loopw [10] (fun i wr => ∃ (j : Nat) (st : St), i = .int .i64 (j : Int) ∧ j ≤ m ∧ Mine G 6 a gd st [] wr) (fun i _ => m - (intOf i).toNat)
  case atStart => exact ⟨0, _, rfl, by omega, H.out⟩
  case round =>
    obtain ⟨j, st, rfl, hj, h⟩ := hrel
    replace H := Lib.hid h
    clear h
    by_cases hgo : j < m ∧ j < 60
    · obtain ⟨hlt, hlt2⟩ := hgo
      obtain ⟨b, off', x0, x1, x2, x3, x4, x5, x6, rfl, ho⟩ := HOPS.out j hlt
      have HOP := Lib.hid (fun (w' : World) (hb : Below a.heap.size a w') => ho.keep (HBW.out _ hb))
      obtain ⟨c0, c1, c2, c3, c4, c5, c6, _⟩ := HOP.out _ H.out.below
      clear ho
      have hlt' : (j : Int) < m := by omega
      have HSET := Lib.hid (Set_m HG.out (H.out.on (Below.refl _ _).drew) x1 ⟨x4, x5, x6⟩)
      have HMOV := Lib.hid (Move_m HG.out (H.out.on (Below.refl _ _).drew) x1 x2 x3)
      by_cases hs : x0 = 0 ∨ x0 = 1 ∨ x0 = 2 ∨ x0 = 3
      · rcases hs with rfl | rfl | rfl | rfl
        all_goals
          go_wp2_with fail
          go_region_held3 (fun w' => w'.cell? ⟨b, off' + j * 7 + 1, none⟩ = some (.int .i64 x1) ∧ w'.cell? ⟨b, off' + j * 7 + 4, none⟩ = some (.int .i64 x4) ∧ w'.cell? ⟨b, off' + j * 7 + 4 + 1, none⟩ = some (.int .i64 x5) ∧ w'.cell? ⟨b, off' + j * 7 + 4 + 2, none⟩ = some (.int .i64 x6))
            (first | exact ⟨c1, c4, c5, c6⟩ | exact opc (HOP.out _ h.below))
            (first | (go_at_call 19; refine HSET.out.mono ?_; rintro e3 w3 ⟨rfl, h⟩))
          clear c0 c1 c2 c3 c4 c5 c6
          go_wp2
          go_roundw
          case rel => exact ⟨j + 1, _, by go_num, by omega, h⟩
          case measure => simp [intOf]; omega
      by_cases hm : x0 = 4 ∨ x0 = 5
      · rcases hm with rfl | rfl
        all_goals
          go_wp2_with fail
          go_region_held3 (fun w' => w'.cell? ⟨b, off' + j * 7 + 1, none⟩ = some (.int .i64 x1) ∧ w'.cell? ⟨b, off' + j * 7 + 2, none⟩ = some (.int .i64 x2) ∧ w'.cell? ⟨b, off' + j * 7 + 3, none⟩ = some (.int .i64 x3))
            (first | exact ⟨c1, c2, c3⟩ | exact opm (HOP.out _ h.below))
            (first | (go_at_call 20; refine HMOV.out.mono ?_; rintro e3 w3 ⟨rfl, h⟩))
          clear c0 c1 c2 c3 c4 c5 c6
          go_wp2
          go_roundw
          case rel => exact ⟨j + 1, _, by go_num, by omega, h⟩
          case measure => simp [intOf]; omega
      · have b0 : (x0 == 0) = false := by simp; omega
        have b1 : (x0 == 1) = false := by simp; omega
        have b2 : (x0 == 2) = false := by simp; omega
        have b3 : (x0 == 3) = false := by simp; omega
        have b4 : (x0 == 4) = false := by simp; omega
        have b5 : (x0 == 5) = false := by simp; omega
        clear hs hm
        go_wp2
        go_roundw
        case rel => exact ⟨j + 1, _, by go_num, by omega, H.out⟩
        case measure => simp [intOf]; omega
    · have hstop : decide (j < m) = false ∨ (decide (j < m) = true ∧ decide ((j : Int) < 60) = false) := by
        by_cases h : j < m
        · exact .inr ⟨decide_eq_true (by omega), decide_eq_false (by omega)⟩
        · exact .inl (decide_eq_false (by omega))
      clear hgo
      rcases hstop with h1 | ⟨h1, h2⟩
      all_goals
        go_wp2
        have hM := H.out.new #[.int .i64 0, .int .i64 0, .int .i64 0, .int .i64 0, .int .i64 0, .int .i64 0, .int .i64 0, .int .i64 0, .int .i64 0, .int .i64 0, .int .i64 0, .int .i64 0, .int .i64 0, .int .i64 0, .int .i64 0, .int .i64 0, .int .i64 0, .int .i64 0] 56
        obtain ⟨F, hF⟩ : ∃ F, F = wr.heap.size := ⟨_, rfl⟩
        have hFa : a.heap.size ≤ F := by rw [hF]; exact H.out.below.size
        rw [← hF] at hM ⊢
        replace H := Lib.hid hM
        clear hM hF
        go_loopw [12] (fun i wq => ∃ (t : Nat) (o : Array Value), i = .int .i64 (t : Int) ∧ t ≤ 6 ∧ Mine G 6 a gd st [(F, .cells o 56 (0, 0))] wq ∧ Row o st t) (fun i _ => 6 - (intOf i).toNat)
        case atStart => exact ⟨0, _, rfl, by omega, H.out, Row.zero st⟩
        case round =>
          obtain ⟨t, o, rfl, ht, h, hrow⟩ := hrel
          replace H := Lib.hid h
          have HR := Lib.hid hrow
          clear h hrow
          by_cases hlt : t < 6
          · have hlt' : (t : Int) < 6 := by omega
            have HGT := Lib.hid (Get_m H.out t)
            rw [show getE st 6 t = st t by unfold getE; rw [if_pos ⟨by omega, by omega⟩]; rfl] at HGT
            have HSTEP := Lib.hid (HR.out.step hlt)
            generalize st t = E at HGT HSTEP
            go_wp2_with fail
            refine HGT.out.mono ?_
            rintro e4 w4 ⟨rfl, hb⟩
            have h4 := H.out.on hb
            obtain ⟨q0, z0⟩ := HR.out.cell (h4.at (.head _)) (j := t * 3) (by omega)
            obtain ⟨q1, z1⟩ := HR.out.cell (h4.at (.head _)) (j := t * 3 + 1) (by omega)
            obtain ⟨q2, z2⟩ := HR.out.cell (h4.at (.head _)) (j := t * 3 + 2) (by omega)
            have H4 := Lib.hid h4
            clear h4 hb HGT
            unfold entV
            go_wp2
            go_roundw
            case rel => exact ⟨t + 1, _, by go_num, by omega, store_side (store_side (store_side H4.out hFa _ _) hFa _ _) hFa _ _, HSTEP.out⟩
            case measure => simp [intOf]; omega
          · obtain rfl : t = 6 := by omega
            obtain ⟨d0, d1, d2, d3, d4, d5, d6⟩ := HD.out _ H.out.below
            by_cases hy : y0 < 4
            · have hy2 : decide (y0 < 4) = true := decide_eq_true hy
              have HC := Lib.hid (Set_m HG.out H.out y1 ⟨y4, y5, y6⟩)
              go_wp2_with fail
              refine HC.out.mono ?_
              rintro e5 w5 ⟨rfl, h⟩
              replace H := Lib.hid h
              clear h HC d0 d1 d2 d3 d4 d5 d6
              unfold setV
              cases hd : setDo st 6 G.N y1 ⟨y4, y5, y6⟩
              · have e3 : setSt st 6 G.N y1 ⟨y4, y5, y6⟩ = st := by unfold setSt; rw [hd]; rfl
                rw [e3] at H
                clear hd e3
                go_wp2
                go_loopw [14] (fun i wq => ∃ t : Nat, i = .int .i64 (t : Int) ∧ t ≤ 6 ∧ Mine G 6 a gd st [(F, .cells o 56 (0, 0))] wq) (fun i _ => 6 - (intOf i).toNat)
                case atStart => exact ⟨0, rfl, by omega, H.out⟩
                case round =>
                  obtain ⟨t, rfl, ht, h⟩ := hrel
                  replace H := Lib.hid h
                  clear h
                  by_cases hlt : t < 6
                  · have hlt' : (t : Int) < 6 := by omega
                    have HGT := Lib.hid (Get_m H.out t)
                    rw [show getE st 6 t = st t by unfold getE; rw [if_pos ⟨by omega, by omega⟩]; rfl] at HGT
                    have HR2 := Lib.hid (fun (w' : World) (hb : w'.heap[F]? = some (.cells o 56 (0, 0))) => show w'.cell? ⟨F, t * 3, none⟩ = some (.int .i64 (st t).a) ∧ w'.cell? ⟨F, t * 3 + 1, none⟩ = some (.int .i64 (st t).s) ∧ w'.cell? ⟨F, t * 3 + 2, none⟩ = some (.int .i64 (st t).k) by
                      rw [← wasF_0 st hlt, ← wasF_1 st hlt, ← wasF_2 st hlt]
                      exact ⟨(HR.out.cell hb (by omega)).1, (HR.out.cell hb (by omega)).1, (HR.out.cell hb (by omega)).1⟩)
                    skip
                    generalize st t = E at HGT HR2
                    go_wp2_with fail
                    refine HGT.out.mono ?_
                    rintro e6 w6 ⟨rfl, hb⟩
                    have h6 := H.out.on hb
                    have h7 := h6.on ((Below.refl w6.heap.size w6).alloc (Nat.le_refl _) (.cells #[.int .i64 E.a, .int .i64 E.s, .int .i64 E.k] 30))
                    obtain ⟨q0, q1, q2⟩ := HR2.out _ (h7.at (.head _))
                    have h8 := h7.on ((Below.refl _ _).alloc (Nat.le_refl _) (.cells #[.int .i64 E.a, .int .i64 E.s, .int .i64 E.k] 30))
                    obtain ⟨d0, d1, d2, d3, d4, d5, d6⟩ := HD.out _ h8.below
                    have HDD := Lib.hid (HD.out _ (h7.on ((Below.refl _ _).alloc (Nat.le_refl _) (.cells #[.int .i64 y4, .int .i64 y5, .int .i64 y6] 30))).below)
                    clear HDD
                    have H7 := Lib.hid h7
                    clear h6 h7 h8 hb HGT
                    unfold entV
                    go_wp2
                    go_roundw
                    case rel => exact ⟨t + 1, by go_num, by omega, H7.out.on ((Below.refl _ _).alloc (Nat.le_refl _) _)⟩
                    case measure => simp [intOf]; omega
                  · obtain rfl : t = 6 := by omega
                    obtain ⟨d0, d1, d2, d3, d4, d5, d6⟩ := HD.out _ H.out.below
                    go_wp2
                    go_ret
                    exact ⟨rfl, HBW.out _ H.out.below⟩
              · have e3 : setSt st 6 G.N y1 ⟨y4, y5, y6⟩ = put st y1.toNat ⟨y4, y5, y6⟩ := by unfold setSt; rw [hd]; rfl
                rw [e3] at H
                obtain ⟨hi0, hi1, _⟩ := setOk_zero (of_decide_eq_true hd).1
                obtain ⟨v, rfl⟩ := Int.eq_ofNat_of_zero_le hi0
                rw [show ((v : Int)).toNat = v from rfl] at H
                have hi1' : (v : Int) < 6 := hi1
                clear hd e3 hi0 hi1
                go_wp2
                go_loopw [14] (fun i wq => ∃ t : Nat, i = .int .i64 (t : Int) ∧ t ≤ 6 ∧ Mine G 6 a gd (put st v ⟨y4, y5, y6⟩) [(F, .cells o 56 (0, 0))] wq) (fun i _ => 6 - (intOf i).toNat)
                case atStart => exact ⟨0, rfl, by omega, H.out⟩
                case round =>
                  obtain ⟨t, rfl, ht, h⟩ := hrel
                  replace H := Lib.hid h
                  clear h
                  by_cases hlt : t < 6
                  · have hlt' : (t : Int) < 6 := by omega
                    have HGT := Lib.hid (Get_m H.out t)
                    rw [show getE (put st v ⟨y4, y5, y6⟩) 6 t = (put st v ⟨y4, y5, y6⟩) t by unfold getE; rw [if_pos ⟨by omega, by omega⟩]; rfl] at HGT
                    have HR2 := Lib.hid (fun (w' : World) (hb : w'.heap[F]? = some (.cells o 56 (0, 0))) => show w'.cell? ⟨F, t * 3, none⟩ = some (.int .i64 (st t).a) ∧ w'.cell? ⟨F, t * 3 + 1, none⟩ = some (.int .i64 (st t).s) ∧ w'.cell? ⟨F, t * 3 + 2, none⟩ = some (.int .i64 (st t).k) by
                      rw [← wasF_0 st hlt, ← wasF_1 st hlt, ← wasF_2 st hlt]
                      exact ⟨(HR.out.cell hb (by omega)).1, (HR.out.cell hb (by omega)).1, (HR.out.cell hb (by omega)).1⟩)
                    by_cases htv : t = v
                    ·
                      subst htv; rw [put_same] at HGT
                      generalize st t = E at HGT HR2
                      go_wp2_with fail
                      refine HGT.out.mono ?_
                      rintro e6 w6 ⟨rfl, hb⟩
                      have h6 := H.out.on hb
                      have h7 := h6.on ((Below.refl w6.heap.size w6).alloc (Nat.le_refl _) (.cells #[.int .i64 y4, .int .i64 y5, .int .i64 y6] 30))
                      obtain ⟨q0, q1, q2⟩ := HR2.out _ (h7.at (.head _))
                      have h8 := h7.on ((Below.refl _ _).alloc (Nat.le_refl _) (.cells #[.int .i64 E.a, .int .i64 E.s, .int .i64 E.k] 30))
                      obtain ⟨d0, d1, d2, d3, d4, d5, d6⟩ := HD.out _ h8.below
                      have HDD := Lib.hid (HD.out _ (h7.on ((Below.refl _ _).alloc (Nat.le_refl _) (.cells #[.int .i64 y4, .int .i64 y5, .int .i64 y6] 30))).below)
                      obtain ⟨e0, e1, e2, e3, e4, e5, e6⟩ := HDD.out
                      have H7 := Lib.hid h7
                      clear h6 h7 h8 hb HGT
                      unfold entV
                      go_wp2
                      go_roundw
                      case rel => exact ⟨t + 1, by go_num, by omega, H7.out.on ((Below.refl _ _).alloc (Nat.le_refl _) _)⟩
                      case measure => simp [intOf]; omega
                    ·
                      rw [put_other htv] at HGT; have btv : ((t : Int) == v) = false := by simp only [beq_eq_false_iff_ne, ne_eq]; omega
                      generalize st t = E at HGT HR2
                      go_wp2_with fail
                      refine HGT.out.mono ?_
                      rintro e6 w6 ⟨rfl, hb⟩
                      have h6 := H.out.on hb
                      have h7 := h6.on ((Below.refl w6.heap.size w6).alloc (Nat.le_refl _) (.cells #[.int .i64 E.a, .int .i64 E.s, .int .i64 E.k] 30))
                      obtain ⟨q0, q1, q2⟩ := HR2.out _ (h7.at (.head _))
                      have h8 := h7.on ((Below.refl _ _).alloc (Nat.le_refl _) (.cells #[.int .i64 E.a, .int .i64 E.s, .int .i64 E.k] 30))
                      obtain ⟨d0, d1, d2, d3, d4, d5, d6⟩ := HD.out _ h8.below
                      have HDD := Lib.hid (HD.out _ (h7.on ((Below.refl _ _).alloc (Nat.le_refl _) (.cells #[.int .i64 y4, .int .i64 y5, .int .i64 y6] 30))).below)
                      clear HDD
                      have H7 := Lib.hid h7
                      clear h6 h7 h8 hb HGT
                      unfold entV
                      go_wp2
                      go_roundw
                      case rel => exact ⟨t + 1, by go_num, by omega, H7.out.on ((Below.refl _ _).alloc (Nat.le_refl _) _)⟩
                      case measure => simp [intOf]; omega
                  · obtain rfl : t = 6 := by omega
                    obtain ⟨d0, d1, d2, d3, d4, d5, d6⟩ := HD.out _ H.out.below
                    go_wp2
                    go_ret
                    exact ⟨rfl, HBW.out _ H.out.below⟩
            · have hy2 : decide (y0 < 4) = false := decide_eq_false hy
              have HC := Lib.hid (Move_m HG.out H.out y1 y2 y3)
              go_wp2_with fail
              refine HC.out.mono ?_
              rintro e5 w5 ⟨rfl, h⟩
              replace H := Lib.hid h
              clear h HC d0 d1 d2 d3 d4 d5 d6
              unfold setV
              cases hd : moveDo st 6 G.N y1 y2 y3
              · have e3 : moveSt st 6 G.N y1 y2 y3 = st := by unfold moveSt; rw [hd]; rfl
                rw [e3] at H
                clear hd e3
                go_wp2
                go_loopw [14] (fun i wq => ∃ t : Nat, i = .int .i64 (t : Int) ∧ t ≤ 6 ∧ Mine G 6 a gd st [(F, .cells o 56 (0, 0))] wq) (fun i _ => 6 - (intOf i).toNat)
                case atStart => exact ⟨0, rfl, by omega, H.out⟩
                case round =>
                  obtain ⟨t, rfl, ht, h⟩ := hrel
                  replace H := Lib.hid h
                  clear h
                  by_cases hlt : t < 6
                  · have hlt' : (t : Int) < 6 := by omega
                    have HGT := Lib.hid (Get_m H.out t)
                    rw [show getE st 6 t = st t by unfold getE; rw [if_pos ⟨by omega, by omega⟩]; rfl] at HGT
                    have HR2 := Lib.hid (fun (w' : World) (hb : w'.heap[F]? = some (.cells o 56 (0, 0))) => show w'.cell? ⟨F, t * 3, none⟩ = some (.int .i64 (st t).a) ∧ w'.cell? ⟨F, t * 3 + 1, none⟩ = some (.int .i64 (st t).s) ∧ w'.cell? ⟨F, t * 3 + 2, none⟩ = some (.int .i64 (st t).k) by
                      rw [← wasF_0 st hlt, ← wasF_1 st hlt, ← wasF_2 st hlt]
                      exact ⟨(HR.out.cell hb (by omega)).1, (HR.out.cell hb (by omega)).1, (HR.out.cell hb (by omega)).1⟩)
                    skip
                    generalize st t = E at HGT HR2
                    go_wp2_with fail
                    refine HGT.out.mono ?_
                    rintro e6 w6 ⟨rfl, hb⟩
                    have h6 := H.out.on hb
                    have h7 := h6.on ((Below.refl w6.heap.size w6).alloc (Nat.le_refl _) (.cells #[.int .i64 E.a, .int .i64 E.s, .int .i64 E.k] 30))
                    obtain ⟨q0, q1, q2⟩ := HR2.out _ (h7.at (.head _))
                    have h8 := h7.on ((Below.refl _ _).alloc (Nat.le_refl _) (.cells #[.int .i64 E.a, .int .i64 E.s, .int .i64 E.k] 30))
                    obtain ⟨d0, d1, d2, d3, d4, d5, d6⟩ := HD.out _ h8.below
                    have HDD := Lib.hid (HD.out _ (h7.on ((Below.refl _ _).alloc (Nat.le_refl _) (.cells #[.int .i64 y4, .int .i64 y5, .int .i64 y6] 30))).below)
                    clear HDD
                    have H7 := Lib.hid h7
                    clear h6 h7 h8 hb HGT
                    unfold entV
                    go_wp2
                    go_roundw
                    case rel => exact ⟨t + 1, by go_num, by omega, H7.out.on ((Below.refl _ _).alloc (Nat.le_refl _) _)⟩
                    case measure => simp [intOf]; omega
                  · obtain rfl : t = 6 := by omega
                    obtain ⟨d0, d1, d2, d3, d4, d5, d6⟩ := HD.out _ H.out.below
                    go_wp2
                    go_ret
                    exact ⟨rfl, HBW.out _ H.out.below⟩
              · have e3 : moveSt st 6 G.N y1 y2 y3 = put st y1.toNat (moved (st y1.toNat) y3) := by unfold moveSt; rw [hd]; rfl
                rw [e3] at H
                obtain ⟨hi0, hi1, _⟩ := moveOk_zero (of_decide_eq_true hd).1
                obtain ⟨v, rfl⟩ := Int.eq_ofNat_of_zero_le hi0
                rw [show ((v : Int)).toNat = v from rfl] at H
                have hi1' : (v : Int) < 6 := hi1
                have hy3 : decide (4 ≤ y0) = true := decide_eq_true (by omega)
                clear hd e3 hi0 hi1
                go_wp2
                go_loopw [14] (fun i wq => ∃ t : Nat, i = .int .i64 (t : Int) ∧ t ≤ 6 ∧ Mine G 6 a gd (put st v (moved (st v) y3)) [(F, .cells o 56 (0, 0))] wq) (fun i _ => 6 - (intOf i).toNat)
                case atStart => exact ⟨0, rfl, by omega, H.out⟩
                case round =>
                  obtain ⟨t, rfl, ht, h⟩ := hrel
                  replace H := Lib.hid h
                  clear h
                  by_cases hlt : t < 6
                  · have hlt' : (t : Int) < 6 := by omega
                    have HGT := Lib.hid (Get_m H.out t)
                    rw [show getE (put st v (moved (st v) y3)) 6 t = (put st v (moved (st v) y3)) t by unfold getE; rw [if_pos ⟨by omega, by omega⟩]; rfl] at HGT
                    have HR2 := Lib.hid (fun (w' : World) (hb : w'.heap[F]? = some (.cells o 56 (0, 0))) => show w'.cell? ⟨F, t * 3, none⟩ = some (.int .i64 (st t).a) ∧ w'.cell? ⟨F, t * 3 + 1, none⟩ = some (.int .i64 (st t).s) ∧ w'.cell? ⟨F, t * 3 + 2, none⟩ = some (.int .i64 (st t).k) by
                      rw [← wasF_0 st hlt, ← wasF_1 st hlt, ← wasF_2 st hlt]
                      exact ⟨(HR.out.cell hb (by omega)).1, (HR.out.cell hb (by omega)).1, (HR.out.cell hb (by omega)).1⟩)
                    by_cases htv : t = v
                    ·
                      subst htv; rw [put_same] at HGT; unfold moved at HGT
                      generalize st t = E at HGT HR2 H
                      go_wp2_with fail
                      refine HGT.out.mono ?_
                      rintro e6 w6 ⟨rfl, hb⟩
                      have h6 := H.out.on hb
                      have h7 := h6.on ((Below.refl w6.heap.size w6).alloc (Nat.le_refl _) (.cells #[.int .i64 y3, .int .i64 E.s, .int .i64 E.k] 30))
                      obtain ⟨q0, q1, q2⟩ := HR2.out _ (h7.at (.head _))
                      have h8 := h7.on ((Below.refl _ _).alloc (Nat.le_refl _) (.cells #[.int .i64 E.a, .int .i64 E.s, .int .i64 E.k] 30))
                      obtain ⟨d0, d1, d2, d3, d4, d5, d6⟩ := HD.out _ h8.below
                      have HDD := Lib.hid (HD.out _ (h7.on ((Below.refl _ _).alloc (Nat.le_refl _) (.cells #[.int .i64 y4, .int .i64 y5, .int .i64 y6] 30))).below)
                      clear HDD
                      have H7 := Lib.hid h7
                      clear h6 h7 h8 hb HGT
                      unfold entV
                      go_wp2
                      go_roundw
                      case rel => exact ⟨t + 1, by go_num, by omega, H7.out.on ((Below.refl _ _).alloc (Nat.le_refl _) _)⟩
                      case measure => simp [intOf]; omega
                    ·
                      rw [put_other htv] at HGT; have btv : ((t : Int) == v) = false := by simp only [beq_eq_false_iff_ne, ne_eq]; omega
                      generalize st t = E at HGT HR2
                      go_wp2_with fail
                      refine HGT.out.mono ?_
                      rintro e6 w6 ⟨rfl, hb⟩
                      have h6 := H.out.on hb
                      have h7 := h6.on ((Below.refl w6.heap.size w6).alloc (Nat.le_refl _) (.cells #[.int .i64 E.a, .int .i64 E.s, .int .i64 E.k] 30))
                      obtain ⟨q0, q1, q2⟩ := HR2.out _ (h7.at (.head _))
                      have h8 := h7.on ((Below.refl _ _).alloc (Nat.le_refl _) (.cells #[.int .i64 E.a, .int .i64 E.s, .int .i64 E.k] 30))
                      obtain ⟨d0, d1, d2, d3, d4, d5, d6⟩ := HD.out _ h8.below
                      have HDD := Lib.hid (HD.out _ (h7.on ((Below.refl _ _).alloc (Nat.le_refl _) (.cells #[.int .i64 y4, .int .i64 y5, .int .i64 y6] 30))).below)
                      clear HDD
                      have H7 := Lib.hid h7
                      clear h6 h7 h8 hb HGT
                      unfold entV
                      go_wp2
                      go_roundw
                      case rel => exact ⟨t + 1, by go_num, by omega, H7.out.on ((Below.refl _ _).alloc (Nat.le_refl _) _)⟩
                      case measure => simp [intOf]; omega
                  · obtain rfl : t = 6 := by omega
                    obtain ⟨d0, d1, d2, d3, d4, d5, d6⟩ := HD.out _ H.out.below
                    go_wp2
                    go_ret
                    exact ⟨rfl, HBW.out _ H.out.below⟩

theorem own : ownKnob Try.prog.godebug = none := by kernel_rfl
theorem laid : laidOutB Try.prog = true := by kernel_rfl

set_option maxRecDepth 100000 in
theorem lifted (os : Os) (started : os.Started) (H : Type) (enc : TypeId × Value → H) :
    ReturnsInHanded {} Try.checked os 7 .any (Rows.l2pRefusesSpec.pre6 enc Try.prog Try.f7 Rows.l2pRefusesRow.domain false) (Rows.l2pRefusesSpec.post enc Try.prog Try.f7 false true false false) := by
  refine returnsInHanded_of_change (C := Try.checked) own started (by kernel_rfl) Try.func7
    (ChangeSpec.witness6 (enc := enc) (C := Try.checked) false ⟨#[], #[.agg #[.int .i64 0, .int .i64 0, .int .i64 0, .int .i64 0, .int .i64 0], .slice none 0 0, .agg #[.int .i64 0, .int .i64 0, .int .i64 0, .int .i64 0, .int .i64 0, .int .i64 0, .int .i64 0]], []⟩ 8 (by kernel_rfl) (by kernel_rfl) (by kernel_rfl) (by kernel_rfl)) ?_
  intro W base args ds gs before hval0 hW _ _
  have hval : ∀ (j : Nat) t v, Try.f7.params[j]? = some t → args[j]? = some v → Value.okWide Try.prog W .any base t v := hval0
  have hW' := hW
  obtain ⟨p, q, hA0, hV, rfl, hfz, hnd⟩ := hW
  have hA : DataW.TrodAll enc Try.prog W 0 (fun _ => true) true Try.f7.params.toList args.toList ds p := hA0
  rw [Try.params7] at hA hval
  obtain ⟨v0, v1, v2, d0, d1, d2, p0, p1, p2, rfl, rfl, rfl, h0, h1, h2⟩ := trodAll_three hA
  obtain ⟨c0, l0, k0, q0, s0, rfl⟩ := open_geo Try.underlying23 rfl (by kernel_rfl) (by kernel_rfl) (hval 0 23 v0 rfl rfl) h0
  obtain ⟨A1, n1, c1, rfl, hnc1, hcm1, hr1⟩ := L2pOps.open_ops (hval 1 38 v1 rfl rfl) h1
  obtain ⟨q2_0, q2_1, q2_2, q2_3, q2_4, q2_5, q2_6, rfl⟩ := L2pOps.open_op (hval 2 41 v2 rfl rfl) h2
  refine (walk c0 l0 k0 q0 s0 A1 n1 c1 q2_0 q2_1 q2_2 q2_3 q2_4 q2_5 q2_6 W hnc1 hcm1 hr1).mono fun e W' ⟨he, hb⟩ => ?_
  subst he
  exact ⟨_, rfl, Law.post laid (by kernel_rfl) (by kernel_rfl) Try.underlying4 rfl hW' rfl hb⟩

theorem proved : Rows.L2pRefusesSaid :=
  OpenClaim.holds_of_wide 7 Try.f7 rfl rfl rfl rfl rfl rfl rfl ⟨rfl, rfl, rfl, rfl, rfl⟩ rfl rfl rfl rfl rfl (by kernel_rfl) Try.func7 (by kernel_rfl)
    (of_decide_eq_true (by kernel_rfl)) (by unfold Func.isWrapper; first | (rw [if_pos (by decide +kernel)]; kernel_rfl) | (rw [if_neg (by decide +kernel)]; exact ⟨rfl, rfl⟩))
    (fun os started H enc _ => lifted os started H enc)

end Go.Proofs.Ytpheblblkkclbaa.l2pRefuses
