/-
  LinesUsed holds: a line that is used, and released, is what it was; for whatever came in. No condition.
-/
import Derived.Test.YtnnonkmkdjhacaaLinesBegin
import Derived.Test.YtnnonkmkdjhacaaLawKit
import Derived.Test.YtnnonkmkdjhacaaStructs
import Derived.OpenShut
namespace Go.Proofs.Ytnnonkmkdjhacaa.linesUsed
open Go.RowKit Go.ChangeShapes Go.WideShapes Lines LinesPkg LinesLaw
open Nand (Shape upd)
set_option maxRecDepth 4000

set_option maxHeartbeats 8000000 in
theorem walk (c l k p s : Int) (A1 : Option Addr) (n1 c1 : Nat) (zs1 : List Int) (A2 : Option Addr) (n2 c2 : Nat) (zs2 : List Int) (line : Int) (w : World) (hset1 : n1 ≤ c1 ∧ c1 ≤ maxLen ∧ Nums w w.heap.size A1 n1 zs1) (hset2 : n2 ≤ c2 ∧ c2 ≤ maxLen ∧ Nums w w.heap.size A2 n2 zs2) (_hb1 : -9223372036854775808 ≤ line) (_hb2 : line ≤ 9223372036854775807) :
    Calls Try.prog 8 #[.agg #[.int .i64 c, .int .i64 l, .int .i64 k, .int .i64 p, .int .i64 s], .agg #[.slice A1 n1 c1, .slice A2 n2 c2], .int .i64 line] w fun e w' => e = .returned (.bool true) ∧ Below w.heap.size w w' := by
  obtain ⟨q1, q2, hr1⟩ := hset1
  obtain ⟨q3, q4, hr2⟩ := hset2
  have hn1 := Nat.le_trans q1 q2
  have hn2 := Nat.le_trans q3 q4
  unfold maxLen at hn1 hn2
  clear q1 q2 q3 q4
  rcases New_split c l k p s A1 n1 c1 zs1 A2 n2 c2 zs2 w hr1 hr2 with hN | ⟨G, hG, rfl, rfl, rfl, rfl, rfl, h21, hnk, hf1, hf2⟩
  · have HN := Lib.hid hN
    clear hN
    obtain ⟨og, hog⟩ : ∃ o, o = Obj.cells #[.int .i64 c, .int .i64 l, .int .i64 k, .int .i64 p, .int .i64 s] 23 := ⟨_, rfl⟩
    obtain ⟨os, hos⟩ : ∃ o, o = Obj.cells #[.slice A1 n1 c1, .slice A2 n2 c2] 36 := ⟨_, rfl⟩
    obtain ⟨a, ha⟩ : ∃ a, a = (w.alloc og).alloc os := ⟨_, rfl⟩
    have hwa : Below w.heap.size w a := by rw [ha]; exact ((Below.refl _ _).alloc (Nat.le_refl _) _).alloc (by simp) _
    have hgeo : Geo a w.heap.size c l k p s := by rw [ha, hog]; exact geo_keep (geo_new w _ _ _ _ _ _) ((Below.refl _ _).alloc (Nat.le_refl _) _)
    have hset : a.heap[w.heap.size + 1]? = some (.cells #[.slice A1 n1 c1, .slice A2 n2 c2] 36 (0, 0)) := by
      have := heap_alloc_new (w.alloc og) (.cells #[.slice A1 n1 c1, .slice A2 n2 c2] 36)
      rw [World.size_alloc] at this
      rw [ha, hos]
      exact this
    have HWA := Lib.hid hwa
    have HGEO := Lib.hid hgeo
    have HSET := Lib.hid hset
    have HA0 := Lib.hid ha
    have HAW := Lib.hid (fun w => awake_any w)
    have HBW := Lib.hid (fun (w' : World) (hb : Below a.heap.size a w') => show Below w.heap.size w w' from hwa.trans (hb.mono hwa.size))
    have HR1 := Lib.hid hr1
    have HR2 := Lib.hid hr2
    clear hwa hgeo hset ha hr1 hr2
    go_enter Try.func8, Try.ntmps8
    go_wp2_with fail
    rw [← hog, ← hos, ← HA0.out]
    refine (HAW.out a).mono ?_
    rintro e1 wa ⟨rfl, hb⟩
    have HA := Lib.hid hb
    clear hb
    obtain ⟨k0, k1, k2, k3, k4⟩ := geo_keep HGEO.out HA.out
    obtain ⟨s0, s1⟩ := cells2 ((HA.out.block _ (Array.getElem?_eq_some_iff.1 HSET.out).1).trans HSET.out)
    go_wp2_with fail
    refine (HN.out wa (HBW.out _ HA.out)).mono ?_
    rintro e2 w2 ⟨rfl, hb⟩
    have HB2 := Lib.hid (below_then HA.out hb)
    clear hb k0 k1 k2 k3 k4 s0 s1
    go_wp2
    go_ret
    exact ⟨rfl, HBW.out _ HB2.out⟩
  subst n2
  have HNW := Lib.hid (fun (a w' : World) (h1 : Below a.heap.size a w') (h2 : Below w.heap.size w w') => New_m hG A1 n1 c1 A2 c2 zs1 zs2 a w' h1 (nums_more (nums_keep hr1 h2) h2.size) hf1 (nums_more (nums_keep hr2 h2) h2.size) hf2)
  have HST := Lib.hid (start_is zs1 zs2)
  generalize LinesPkg.start zs1 zs2 = f at HNW HST
  have HGK := Lib.hid hG
  clear hG hf1 hf2
  obtain ⟨og, hog⟩ : ∃ o, o = Obj.cells #[.int .i64 G.c, .int .i64 G.l, .int .i64 G.k, .int .i64 G.p, .int .i64 G.s] 23 := ⟨_, rfl⟩
  obtain ⟨os, hos⟩ : ∃ o, o = Obj.cells #[.slice A1 n1 c1, .slice A2 n1 c2] 36 := ⟨_, rfl⟩
  obtain ⟨a, ha⟩ : ∃ a, a = (w.alloc og).alloc os := ⟨_, rfl⟩
  have hwa : Below w.heap.size w a := by rw [ha]; exact ((Below.refl _ _).alloc (Nat.le_refl _) _).alloc (by simp) _
  have hgeo : Geo a w.heap.size G.c G.l G.k G.p G.s := by rw [ha, hog]; exact geo_keep (geo_new w _ _ _ _ _ _) ((Below.refl _ _).alloc (Nat.le_refl _) _)
  have hset : a.heap[w.heap.size + 1]? = some (.cells #[.slice A1 n1 c1, .slice A2 n1 c2] 36 (0, 0)) := by
    have := heap_alloc_new (w.alloc og) (.cells #[.slice A1 n1 c1, .slice A2 n1 c2] 36)
    rw [World.size_alloc] at this
    rw [ha, hos]
    exact this
  have HWA := Lib.hid hwa
  have HGEO := Lib.hid hgeo
  have HSET := Lib.hid hset
  have HA0 := Lib.hid ha
  have HAW := Lib.hid (fun w => awake_any w)
  have HBW := Lib.hid (fun (w' : World) (hb : Below a.heap.size a w') => show Below w.heap.size w w' from hwa.trans (hb.mono hwa.size))
  have HR1 := Lib.hid hr1
  have HR2 := Lib.hid hr2
  clear hwa hgeo hset ha hr1 hr2
  go_enter Try.func8, Try.ntmps8
  go_wp2_with fail
  rw [← hog, ← hos, ← HA0.out]
  refine (HAW.out a).mono ?_
  rintro e1 wa ⟨rfl, hb⟩
  have HA := Lib.hid hb
  clear hb
  obtain ⟨k0, k1, k2, k3, k4⟩ := geo_keep HGEO.out HA.out
  obtain ⟨s0, s1⟩ := cells2 ((HA.out.block _ (Array.getElem?_eq_some_iff.1 HSET.out).1).trans HSET.out)
  have HNX := Lib.hid (HNW.out a wa HA.out (HBW.out _ HA.out))
  clear HNW
  go_wp2_with fail
  refine HNX.out.mono ?_
  rintro e2 w2 ⟨gd, rfl, h⟩
  have H := Lib.hid h
  clear h HNX k0 k1 k2 k3 k4 s0 s1
  by_cases hl : 0 ≤ line ∧ line < n1
  rotate_left
  · have hE := fun s => chg_out (f := f) hl s
    have hL : loseE f n1 line = 2 := if_neg hl
    have hD : ∀ s g, doAt f n1 line s g = f := fun s g => doAt_no (by rw [hE]; omega)
    have hLS : loseS f n1 line = f := if_neg (by rw [hL]; omega)
    have HE := Lib.hid hE
    have HD := Lib.hid hD
    have HL := Lib.hid (And.intro hL hLS)
    have HGV := Lib.hid (show getV G f n1 line = noLine ∧ getE n1 line = 2 from ⟨if_neg hl, if_neg hl⟩)
    clear hE hL hD hLS hl
    have HC := Lib.hid (Get_m H.out line)
    rw [HGV.out.1, HGV.out.2] at HC
    unfold noLine at HC
    go_wp2_with fail
    refine HC.out.mono ?_
    rintro e3 w3 ⟨rfl, h, _⟩
    replace H := Lib.hid (h.new #[.int .i64 0, .int .i64 0, .int .i64 0, .int .i64 0, .int .i64 0] 45)
    clear h HC
    have HC := Lib.hid (Use_m H.out line)
    rw [HE.out, HD.out] at HC
    go_wp2_with fail
    refine HC.out.mono ?_
    rintro e4 w4 ⟨rfl, h⟩
    replace H := Lib.hid h
    clear h HC
    have HC := Lib.hid (Release_m H.out line)
    rw [HE.out, HD.out] at HC
    go_wp2_with fail
    refine HC.out.mono ?_
    rintro e5 w5 ⟨rfl, h⟩
    replace H := Lib.hid h
    clear h HC
    have HC := Lib.hid (Erased_m H.out line)
    rw [HE.out, HD.out] at HC
    go_wp2_with fail
    refine HC.out.mono ?_
    rintro e6 w6 ⟨rfl, h⟩
    replace H := Lib.hid h
    clear h HC
    have HC := Lib.hid (Lose_m H.out line)
    rw [HL.out.1, HL.out.2] at HC
    go_wp2_with fail
    refine HC.out.mono ?_
    rintro e7 w7 ⟨rfl, h⟩
    replace H := Lib.hid h
    clear h HC
    go_wp2
    go_ret
    exact ⟨rfl, HBW.out _ H.out.below⟩
  obtain ⟨i, rfl⟩ := Int.eq_ofNat_of_zero_le hl.1
  have hi : i < n1 := by omega
  clear hl
  have HI := Lib.hid hi
  obtain ⟨x, hx⟩ : ∃ x, x = f i := ⟨_, rfl⟩
  have hsg : x.st = freeSt x.gd := by rw [hx]; exact HST.out i
  have hs01 := (freeSt_bd x.gd).1
  rw [← hsg] at hs01
  obtain ⟨R, hR⟩ : ∃ R, R = room G x.gd := ⟨_, rfl⟩
  have HLV : Hid (lineV G (f i) = .agg #[.int .i64 x.st, .int .i64 x.wr, .int .i64 x.gd, .int .i64 0, .int .i64 R]) := Lib.hid (by rw [hR, hx]; rfl)
  have HR2' : Hid (chg f n1 (i : Int) 2 = 13 ∧ doAt f n1 (i : Int) 2 free = f) := Lib.hid (by
    have e : chg f n1 (i : Int) 2 = 13 := by rw [chg_in hi, if_neg (by rw [← hx]; omega)]
    exact ⟨e, doAt_no (by rw [e]; omega)⟩)
  have HR1' : Hid (chg f n1 (i : Int) 1 = 13 ∧ doAt f n1 (i : Int) 1 erase = f) := Lib.hid (by
    have e : chg f n1 (i : Int) 1 = 13 := by rw [chg_in hi, if_neg (by rw [← hx]; omega)]
    exact ⟨e, doAt_no (by rw [e]; omega)⟩)
  rcases hs01 with h0 | hd
  · obtain ⟨g, hg⟩ : ∃ g, g = upd f i (shut (f i)) := ⟨_, rfl⟩
    have hgi : g i = shut x := by rw [hg, hx]; exact Nand.upd_same _ _ _
    have HU : Hid (chg f n1 (i : Int) 0 = 0 ∧ doAt f n1 (i : Int) 0 shut = g) := Lib.hid (by
      have e : (f i).st = 0 := by rw [← hx]; exact h0
      exact ⟨by rw [chg_in hi, if_pos e], by rw [doAt_in hi e, hg]⟩)
    have HU2 : Hid (chg g n1 (i : Int) 0 = 13 ∧ doAt g n1 (i : Int) 0 shut = g) := Lib.hid (by
      have e : chg g n1 (i : Int) 0 = 13 := by rw [chg_in hi, if_neg (by rw [hgi]; show ¬ (2 : Int) = 0; omega)]
      exact ⟨e, doAt_no (by rw [e]; omega)⟩)
    obtain ⟨q, hq⟩ : ∃ q, q = upd g i (free (g i)) := ⟨_, rfl⟩
    have HRL : Hid (chg g n1 (i : Int) 2 = 0 ∧ doAt g n1 (i : Int) 2 free = q) := Lib.hid (by
      have e : (g i).st = 2 := by rw [hgi]; rfl
      exact ⟨by rw [chg_in hi, if_pos e], by rw [doAt_in hi e, hq]⟩)
    have HLG : Hid (lineV G (g i) = .agg #[.int .i64 2, .int .i64 x.wr, .int .i64 x.gd, .int .i64 0, .int .i64 R]) := Lib.hid (by rw [hgi, hR]; rfl)
    have HLQ : Hid (lineV G (q i) = .agg #[.int .i64 x.st, .int .i64 x.wr, .int .i64 x.gd, .int .i64 0, .int .i64 R]) := Lib.hid (by
      have e : q i = ⟨x.st, x.wr, x.gd⟩ := by rw [hq, Nand.upd_same, hgi, hsg]; rfl
      rw [e, hR]
      rfl)
    clear hi hx hsg hR hgi hg hq
    rw [h0] at HLV HLQ
    clear h0
    generalize x.wr = x1 at *
    generalize x.gd = x2 at *
    have HC := Lib.hid (geti_m H.out i HI.out)
    rw [HLV.out] at HC
    go_wp2_with fail
    refine HC.out.mono ?_
    rintro e3 w3 ⟨rfl, h, _⟩
    replace H := Lib.hid (h.new #[.int .i64 0, .int .i64 x1, .int .i64 x2, .int .i64 0, .int .i64 R] 45)
    clear h HC
    have HC := Lib.hid (Release_m H.out (i : Int))
    rw [HR2'.out.1, HR2'.out.2] at HC
    go_wp2_with fail
    refine HC.out.mono ?_
    rintro e4 w4 ⟨rfl, h⟩
    replace H := Lib.hid h
    clear h HC
    have HC := Lib.hid (Erased_m H.out (i : Int))
    rw [HR1'.out.1, HR1'.out.2] at HC
    go_wp2_with fail
    refine HC.out.mono ?_
    rintro e5 w5 ⟨rfl, h⟩
    replace H := Lib.hid h
    clear h HC
    have HC := Lib.hid (Use_m H.out (i : Int))
    rw [HU.out.1, HU.out.2] at HC
    go_wp2_with fail
    refine HC.out.mono ?_
    rintro e6 w6 ⟨rfl, h⟩
    replace H := Lib.hid h
    clear h HC
    obtain ⟨y0, y1, y2, y3, y4⟩ := cells5' (H.out.at (.head _))
    clear y1 y2 y3 y4
    have HC := Lib.hid (geti_m H.out i HI.out)
    rw [HLG.out] at HC
    go_wp2_with fail
    refine HC.out.mono ?_
    rintro e7 w7 ⟨rfl, h, _⟩
    replace H := Lib.hid (h.new #[.int .i64 2, .int .i64 x1, .int .i64 x2, .int .i64 0, .int .i64 R] 45)
    clear h HC
    clear y0
    have HC := Lib.hid (Use_m H.out (i : Int))
    rw [HU2.out.1, HU2.out.2] at HC
    go_wp2_with fail
    refine HC.out.mono ?_
    rintro e8 w8 ⟨rfl, h⟩
    replace H := Lib.hid h
    clear h HC
    have HC := Lib.hid (Release_m H.out (i : Int))
    rw [HRL.out.1, HRL.out.2] at HC
    go_wp2_with fail
    refine HC.out.mono ?_
    rintro e9 w9 ⟨rfl, h⟩
    replace H := Lib.hid h
    clear h HC
    have HC := Lib.hid (geti_m H.out i HI.out)
    rw [HLQ.out] at HC
    go_wp2_with fail
    refine HC.out.mono ?_
    rintro e10 w10 ⟨rfl, h, _⟩
    replace H := Lib.hid (h.new #[.int .i64 0, .int .i64 x1, .int .i64 x2, .int .i64 0, .int .i64 R] 45)
    clear h HC
    obtain ⟨u0, u1, u2, u3, u4⟩ := cells5' (H.out.at (.head _))
    obtain ⟨y0, y1, y2, y3, y4⟩ := cells5' (H.out.at (.tail _ (.head _)))
    obtain ⟨z0, z1, z2, z3, z4⟩ := cells5' (H.out.at (.tail _ (.tail _ (.head _))))
    go_wp2
    go_ret
    exact ⟨rfl, HBW.out _ H.out.below⟩
  · have HU : Hid (chg f n1 (i : Int) 0 = 13 ∧ doAt f n1 (i : Int) 0 shut = f) := Lib.hid (by
      have e : chg f n1 (i : Int) 0 = 13 := by rw [chg_in hi, if_neg (by rw [← hx]; omega)]
      exact ⟨e, doAt_no (by rw [e]; omega)⟩)
    clear hi hx hsg hR
    rw [hd] at HLV
    clear hd
    generalize x.wr = x1 at *
    generalize x.gd = x2 at *
    have HC := Lib.hid (geti_m H.out i HI.out)
    rw [HLV.out] at HC
    go_wp2_with fail
    refine HC.out.mono ?_
    rintro e3 w3 ⟨rfl, h, _⟩
    replace H := Lib.hid (h.new #[.int .i64 3, .int .i64 x1, .int .i64 x2, .int .i64 0, .int .i64 R] 45)
    clear h HC
    have HC := Lib.hid (Release_m H.out (i : Int))
    rw [HR2'.out.1, HR2'.out.2] at HC
    go_wp2_with fail
    refine HC.out.mono ?_
    rintro e4 w4 ⟨rfl, h⟩
    replace H := Lib.hid h
    clear h HC
    have HC := Lib.hid (Erased_m H.out (i : Int))
    rw [HR1'.out.1, HR1'.out.2] at HC
    go_wp2_with fail
    refine HC.out.mono ?_
    rintro e5 w5 ⟨rfl, h⟩
    replace H := Lib.hid h
    clear h HC
    have HC := Lib.hid (Use_m H.out (i : Int))
    rw [HU.out.1, HU.out.2] at HC
    go_wp2_with fail
    refine HC.out.mono ?_
    rintro e6 w6 ⟨rfl, h⟩
    replace H := Lib.hid h
    clear h HC
    obtain ⟨y0, y1, y2, y3, y4⟩ := cells5' (H.out.at (.head _))
    clear y1 y2 y3 y4
    have HC := Lib.hid (geti_m H.out i HI.out)
    rw [HLV.out] at HC
    go_wp2_with fail
    refine HC.out.mono ?_
    rintro e7 w7 ⟨rfl, h, _⟩
    replace H := Lib.hid (h.new #[.int .i64 3, .int .i64 x1, .int .i64 x2, .int .i64 0, .int .i64 R] 45)
    clear h HC
    clear y0
    obtain ⟨y0, y1, y2, y3, y4⟩ := cells5' (H.out.at (.head _))
    obtain ⟨z0, z1, z2, z3, z4⟩ := cells5' (H.out.at (.tail _ (.head _)))
    go_wp2
    go_ret
    exact ⟨rfl, HBW.out _ H.out.below⟩

theorem own : ownKnob Try.prog.godebug = none := by kernel_rfl
theorem laid : laidOutB Try.prog = true := by kernel_rfl

set_option maxRecDepth 100000 in
theorem lifted (os : Os) (started : os.Started) (H : Type) (enc : TypeId × Value → H) :
    ReturnsInHanded {} Try.checked os 8 .any (Rows.linesUsedSpec.pre6 enc Try.prog Try.f8 Rows.linesUsedRow.domain false) (Rows.linesUsedSpec.post enc Try.prog Try.f8 false true false false) := by
  refine returnsInHanded_of_change (C := Try.checked) own started (by kernel_rfl) Try.func8
    (ChangeSpec.witness6 (enc := enc) (C := Try.checked) false ⟨#[], #[.agg #[.int .i64 0, .int .i64 0, .int .i64 0, .int .i64 0, .int .i64 0], .agg #[.slice none 0 0, .slice none 0 0], .int .i64 0], []⟩ 8 (by kernel_rfl) (by kernel_rfl) (by kernel_rfl) (by kernel_rfl)) ?_
  intro W base args ds gs before hval0 hW _ _
  have hval : ∀ (j : Nat) t v, Try.f8.params[j]? = some t → args[j]? = some v → Value.okWide Try.prog W .any base t v := hval0
  have hW' := hW
  obtain ⟨p, q, hA0, hV, rfl, hfz, hnd⟩ := hW
  have hA : DataW.TrodAll enc Try.prog W 0 (fun _ => true) true Try.f8.params.toList args.toList ds p := hA0
  rw [Try.params8] at hA hval
  obtain ⟨v0, v1, v2, d0, d1, d2, p0, p1, p2, rfl, rfl, rfl, h0, h1, h2⟩ := trodAll_three hA
  obtain ⟨c0, l0, k0, q0, s0, rfl⟩ := open_geo Try.underlying23 rfl (by kernel_rfl) (by kernel_rfl) (hval 0 23 v0 rfl rfl) h0
  obtain ⟨A1a, n1a, c1a, zs1a, A1b, n1b, c1b, zs1b, rfl, hsa1, hsb1⟩ := LinesOps.open_setting (hval 1 36 v1 rfl rfl) h1
  obtain ⟨a2, rfl, rfl, rfl, wf2⟩ := open_int Try.underlying3 (hval 2 3 v2 rfl rfl) h2
  have hb2 : -9223372036854775808 ≤ a2 ∧ a2 ≤ 9223372036854775807 := by simpa [Lit.wf, IntKind.min, IntKind.max, IntKind.signed, IntKind.bits] using wf2
  refine (walk c0 l0 k0 q0 s0 A1a n1a c1a zs1a A1b n1b c1b zs1b a2 W hsa1 hsb1 hb2.1 hb2.2).mono fun e W' ⟨he, hb⟩ => ?_
  subst he
  exact ⟨_, rfl, Law.post laid (by kernel_rfl) (by kernel_rfl) Try.underlying4 rfl hW' rfl hb⟩

theorem proved : Rows.LinesUsedSaid :=
  OpenClaim.holds_of_wide 8 Try.f8 rfl rfl rfl rfl rfl rfl rfl ⟨rfl, rfl, rfl, rfl, rfl⟩ rfl rfl rfl rfl rfl (by kernel_rfl) Try.func8 (by kernel_rfl)
    (of_decide_eq_true (by kernel_rfl)) (by unfold Func.isWrapper; first | (rw [if_pos (by decide +kernel)]; kernel_rfl) | (rw [if_neg (by decide +kernel)]; exact ⟨rfl, rfl⟩))
    (fun os started H enc _ => lifted os started H enc)

end Go.Proofs.Ytnnonkmkdjhacaa.linesUsed
