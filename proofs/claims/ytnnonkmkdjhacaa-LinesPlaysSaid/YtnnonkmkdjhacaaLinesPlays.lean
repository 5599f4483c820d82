/-
  LinesPlays holds: the lines do as the document's, call for call; for whatever came in. No condition.
-/
import Derived.Test.YtnnonkmkdjhacaaLinesBegin
import Derived.Test.YtnnonkmkdjhacaaLawKit
import Derived.Test.YtnnonkmkdjhacaaStructs
import Derived.OpenShut
import Derived.Test.YtnnonkmkdjhacaaLinesDoes
namespace Go.Proofs.Ytnnonkmkdjhacaa.linesPlays
open Go.RowKit Go.ChangeShapes Go.WideShapes Lines LinesPkg LinesLaw
open Nand (Shape upd)
set_option maxRecDepth 4000

set_option maxHeartbeats 8000000 in
theorem walk (c l k p s : Int) (A1 : Option Addr) (n1 c1 : Nat) (zs1 : List Int) (A2 : Option Addr) (n2 c2 : Nat) (zs2 : List Int) (A : Option Addr) (m cp : Nat) (w : World) (hset1 : n1 ≤ c1 ∧ c1 ≤ maxLen ∧ Nums w w.heap.size A1 n1 zs1) (hset2 : n2 ≤ c2 ∧ c2 ≤ maxLen ∧ Nums w w.heap.size A2 n2 zs2) (hmc : m ≤ cp) (hcm : cp ≤ maxLen) (hr : LinesOps.Ops w w.heap.size A m) :
    Calls Try.prog 4 #[.agg #[.int .i64 c, .int .i64 l, .int .i64 k, .int .i64 p, .int .i64 s], .agg #[.slice A1 n1 c1, .slice A2 n2 c2], .slice A m cp] w fun e w' => e = .returned (.bool true) ∧ Below w.heap.size w w' := by
  obtain ⟨q1, q2, hr1⟩ := hset1
  obtain ⟨q3, q4, hr2⟩ := hset2
  have hn1 := Nat.le_trans q1 q2
  have hn2 := Nat.le_trans q3 q4
  unfold maxLen at hn1 hn2
  clear q1 q2 q3 q4
  have HOPS := Lib.hid hr
  have hm := Nat.le_trans hmc hcm
  unfold maxLen at hm
  clear hr hmc hcm
  rcases New_split2 c l k p s A1 n1 c1 zs1 A2 n2 c2 zs2 w hr1 hr2 with ⟨hN, hM⟩ | ⟨G, hG, rfl, rfl, rfl, rfl, rfl, h21, hnk, hf1, hf2⟩
  · have HN := Lib.hid hN
    have HM := Lib.hid hM
    clear hN hM
    obtain ⟨og, hog⟩ : ∃ o, o = Obj.cells #[.int .i64 c, .int .i64 l, .int .i64 k, .int .i64 p, .int .i64 s] 23 := ⟨_, rfl⟩
    obtain ⟨os, hos⟩ : ∃ o, o = Obj.cells #[.slice A1 n1 c1, .slice A2 n2 c2] 36 := ⟨_, rfl⟩
    obtain ⟨a, ha⟩ : ∃ a, a = (w.alloc og).alloc os := ⟨_, rfl⟩
    have hwa : Below w.heap.size w a := by rw [ha]; exact ((Below.refl _ _).alloc (Nat.le_refl _) _).alloc (by simp) _
    have hgeo : Geo a w.heap.size c l k p s := by rw [ha, hog]; exact geo_keep (geo_new w _ _ _ _ _ _) ((Below.refl _ _).alloc (Nat.le_refl _) _)
    have hset : a.heap[w.heap.size + 1]? = some (.cells #[.slice A1 n1 c1, .slice A2 n2 c2] 36 (0, 0)) := by
      have := heap_alloc_new (w.alloc og) (.cells #[.slice A1 n1 c1, .slice A2 n2 c2] 36)
      rw [World.size_alloc] at this
      rw [ha, hos]
      exact this
    have HWA := Lib.hid hwa
    have HGEO := Lib.hid hgeo
    have HSET := Lib.hid hset
    have HA0 := Lib.hid ha
    have HAW := Lib.hid (fun w => awake_any w)
    have HBW := Lib.hid (fun (w' : World) (hb : Below a.heap.size a w') => show Below w.heap.size w w' from hwa.trans (hb.mono hwa.size))
    have HR1 := Lib.hid hr1
    have HR2 := Lib.hid hr2
    clear hwa hgeo hset ha hr1 hr2
    go_enter Try.func4, Try.ntmps4
    go_wp2_with fail
    rw [← hog, ← hos, ← HA0.out]
    refine (HAW.out a).mono ?_
    rintro e1 wa ⟨rfl, hb⟩
    have HA := Lib.hid hb
    clear hb
    obtain ⟨k0, k1, k2, k3, k4⟩ := geo_keep HGEO.out HA.out
    obtain ⟨s0, s1⟩ := cells2 ((HA.out.block _ (Array.getElem?_eq_some_iff.1 HSET.out).1).trans HSET.out)
    go_wp2_with fail
    refine (HN.out wa (HBW.out _ HA.out)).mono ?_
    rintro e2 w2 ⟨rfl, hb⟩
    have HB2 := Lib.hid (below_then HA.out hb)
    clear hb k0 k1 k2 k3 k4 s0 s1
    obtain ⟨k0, k1, k2, k3, k4⟩ := geo_keep HGEO.out HB2.out
    obtain ⟨s0, s1⟩ := cells2 ((HB2.out.block _ (Array.getElem?_eq_some_iff.1 HSET.out).1).trans HSET.out)
    go_wp2_with fail
    refine (HM.out w2 (HBW.out _ HB2.out)).mono ?_
    rintro e3 w3 ⟨rfl, hb⟩
    replace HB2 := Lib.hid (below_then HB2.out hb)
    clear hb k0 k1 k2 k3 k4 s0 s1
    go_wp2
    go_loopw [12] (fun i wr => i = .int .i64 0 ∧ wr = w3) (fun _ _ => 0)
    case atStart => exact ⟨rfl, by trivial⟩
    case round =>
      obtain ⟨rfl, rfl⟩ := hrel
      go_wp2
      all_goals
        go_ret
        exact ⟨rfl, HBW.out _ HB2.out⟩
  subst n2
  have HNW := Lib.hid (fun (a w' : World) (h1 : Below a.heap.size a w') (h2 : Below w.heap.size w w') => New_1 hG A1 n1 c1 A2 c2 zs1 zs2 a w' h1 (nums_more (nums_keep hr1 h2) h2.size) hf1 (nums_more (nums_keep hr2 h2) h2.size) hf2)
  have HNR := Lib.hid (fun (a w' : World) (P : Pl) (hp : Lp G n1 w' P (LinesPkg.start zs1 zs2)) (ho : ∀ b, P.own b → a.heap.size ≤ b) (h1 : Below a.heap.size a w') (h2 : Below w.heap.size w w') => New_2 hG A1 n1 c1 A2 c2 zs1 zs2 a w' P hp ho h1 (nums_more (nums_keep hr1 h2) h2.size) hf1 (nums_more (nums_keep hr2 h2) h2.size) hf2)
  generalize LinesPkg.start zs1 zs2 = f at HNW HNR
  clear hG hf1 hf2
  obtain ⟨og, hog⟩ : ∃ o, o = Obj.cells #[.int .i64 G.c, .int .i64 G.l, .int .i64 G.k, .int .i64 G.p, .int .i64 G.s] 23 := ⟨_, rfl⟩
  obtain ⟨os, hos⟩ : ∃ o, o = Obj.cells #[.slice A1 n1 c1, .slice A2 n1 c2] 36 := ⟨_, rfl⟩
  obtain ⟨a, ha⟩ : ∃ a, a = (w.alloc og).alloc os := ⟨_, rfl⟩
  have hwa : Below w.heap.size w a := by rw [ha]; exact ((Below.refl _ _).alloc (Nat.le_refl _) _).alloc (by simp) _
  have hgeo : Geo a w.heap.size G.c G.l G.k G.p G.s := by rw [ha, hog]; exact geo_keep (geo_new w _ _ _ _ _ _) ((Below.refl _ _).alloc (Nat.le_refl _) _)
  have hset : a.heap[w.heap.size + 1]? = some (.cells #[.slice A1 n1 c1, .slice A2 n1 c2] 36 (0, 0)) := by
    have := heap_alloc_new (w.alloc og) (.cells #[.slice A1 n1 c1, .slice A2 n1 c2] 36)
    rw [World.size_alloc] at this
    rw [ha, hos]
    exact this
  have HWA := Lib.hid hwa
  have HGEO := Lib.hid hgeo
  have HSET := Lib.hid hset
  have HA0 := Lib.hid ha
  have HAW := Lib.hid (fun w => awake_any w)
  have HBW := Lib.hid (fun (w' : World) (hb : Below a.heap.size a w') => show Below w.heap.size w w' from hwa.trans (hb.mono hwa.size))
  have HR1 := Lib.hid hr1
  have HR2 := Lib.hid hr2
  clear hwa hgeo hset ha hr1 hr2
  go_enter Try.func4, Try.ntmps4
  go_wp2_with fail
  rw [← hog, ← hos, ← HA0.out]
  refine (HAW.out a).mono ?_
  rintro e1 wa ⟨rfl, hb⟩
  have HA := Lib.hid hb
  clear hb
  obtain ⟨k0, k1, k2, k3, k4⟩ := geo_keep HGEO.out HA.out
  obtain ⟨s0, s1⟩ := cells2 ((HA.out.block _ (Array.getElem?_eq_some_iff.1 HSET.out).1).trans HSET.out)
  have HNX := Lib.hid (HNW.out a wa HA.out (HBW.out _ HA.out))
  clear HNW
  go_wp2_with fail
  refine HNX.out.mono ?_
  rintro e2 w2 ⟨P, rfl, hp, ho, hb⟩
  have HNY := Lib.hid (HNR.out a w2 P hp ho hb (HBW.out _ hb))
  have HGW := Lib.hid (show Geo w2 w.heap.size G.c G.l G.k G.p G.s from geo_keep HGEO.out hb)
  have HSW := Lib.hid ((hb.block _ (Array.getElem?_eq_some_iff.1 HSET.out).1).trans HSET.out)
  clear hp ho hb HNR HNX k0 k1 k2 k3 k4 s0 s1
  obtain ⟨k0, k1, k2, k3, k4⟩ := HGW.out
  obtain ⟨s0, s1⟩ := cells2 HSW.out
  go_wp2_with fail
  refine HNY.out.mono ?_
  rintro e3 w3 ⟨rr, rfl, h⟩
  have H := Lib.hid h
  clear h HNY k0 k1 k2 k3 k4 s0 s1
  generalize P.g = gd at *
  go_wp2
  go_loopw [12, 13] (fun i _ wr => ∃ (j : Nat) (f : St), i = .int .i64 (j : Int) ∧ j ≤ m ∧ Two G n1 a gd rr f f [] wr) (fun i _ _ => m - (intOf i).toNat)
  case atStart => exact ⟨0, _, rfl, by omega, H.out⟩
  case round =>
    obtain ⟨j, f, rfl, hj, h⟩ := hrel
    replace H := Lib.hid h
    clear h
    by_cases hgo : j < m ∧ j < 100
    · obtain ⟨hlt, hlt2⟩ := hgo
      obtain ⟨b, off, x0, x1, own, rfl, ho⟩ := HOPS.out j hlt
      obtain ⟨c0, c1', c2', _⟩ := ho.keep (HBW.out _ H.out.below)
      clear ho
      have hlt' : (j : Int) < m := by omega
      have HD := Lib.hid (does_any H.out x0 x1 own)
      unfold opV at HD
      go_wp2_with fail
      refine HD.out.mono ?_
      rintro e4 w4 ⟨rfl, f', h⟩
      have HAL := Lib.hid (alike_any h)
      clear h HD c0 c1' c2'
      go_wp2_with fail
      refine HAL.out.mono ?_
      rintro e5 w5 ⟨rfl, h⟩
      go_wp2
      go_roundw
      case rel => exact ⟨j + 1, f', by go_num, by omega, h⟩
      case measure => simp [intOf]; omega
    · have hstop : decide (j < m) = false ∨ (decide (j < m) = true ∧ decide ((j : Int) < 100) = false) := by
        by_cases h : j < m
        · exact .inr ⟨decide_eq_true (by omega), decide_eq_false (by omega)⟩
        · exact .inl (decide_eq_false (by omega))
      clear hgo
      rcases hstop with h1 | ⟨h1, h2⟩
      all_goals
        go_wp2
        go_ret
        exact ⟨rfl, HBW.out _ H.out.below⟩

theorem own : ownKnob Try.prog.godebug = none := by kernel_rfl
theorem laid : laidOutB Try.prog = true := by kernel_rfl

set_option maxRecDepth 100000 in
theorem lifted (os : Os) (started : os.Started) (H : Type) (enc : TypeId × Value → H) :
    ReturnsInHanded {} Try.checked os 4 .any (Rows.linesPlaysSpec.pre6 enc Try.prog Try.f4 Rows.linesPlaysRow.domain false) (Rows.linesPlaysSpec.post enc Try.prog Try.f4 false true false false) := by
  refine returnsInHanded_of_change (C := Try.checked) own started (by kernel_rfl) Try.func4
    (ChangeSpec.witness6 (enc := enc) (C := Try.checked) false ⟨#[], #[.agg #[.int .i64 0, .int .i64 0, .int .i64 0, .int .i64 0, .int .i64 0], .agg #[.slice none 0 0, .slice none 0 0], .slice none 0 0], []⟩ 8 (by kernel_rfl) (by kernel_rfl) (by kernel_rfl) (by kernel_rfl)) ?_
  intro W base args ds gs before hval0 hW _ _
  have hval : ∀ (j : Nat) t v, Try.f4.params[j]? = some t → args[j]? = some v → Value.okWide Try.prog W .any base t v := hval0
  have hW' := hW
  obtain ⟨p, q, hA0, hV, rfl, hfz, hnd⟩ := hW
  have hA : DataW.TrodAll enc Try.prog W 0 (fun _ => true) true Try.f4.params.toList args.toList ds p := hA0
  rw [Try.params4] at hA hval
  obtain ⟨v0, v1, v2, d0, d1, d2, p0, p1, p2, rfl, rfl, rfl, h0, h1, h2⟩ := trodAll_three hA
  obtain ⟨c0, l0, k0, q0, s0, rfl⟩ := open_geo Try.underlying23 rfl (by kernel_rfl) (by kernel_rfl) (hval 0 23 v0 rfl rfl) h0
  obtain ⟨A1a, n1a, c1a, zs1a, A1b, n1b, c1b, zs1b, rfl, hsa1, hsb1⟩ := LinesOps.open_setting (hval 1 36 v1 rfl rfl) h1
  obtain ⟨A2, n2, c2, rfl, hnc2, hcm2, hr2⟩ := LinesOps.open_ops (hval 2 37 v2 rfl rfl) h2
  refine (walk c0 l0 k0 q0 s0 A1a n1a c1a zs1a A1b n1b c1b zs1b A2 n2 c2 W hsa1 hsb1 hnc2 hcm2 hr2).mono fun e W' ⟨he, hb⟩ => ?_
  subst he
  exact ⟨_, rfl, Law.post laid (by kernel_rfl) (by kernel_rfl) Try.underlying4 rfl hW' rfl hb⟩

theorem proved : Rows.LinesPlaysSaid :=
  OpenClaim.holds_of_wide 4 Try.f4 rfl rfl rfl rfl rfl rfl rfl ⟨rfl, rfl, rfl, rfl, rfl⟩ rfl rfl rfl rfl rfl (by kernel_rfl) Try.func4 (by kernel_rfl)
    (of_decide_eq_true (by kernel_rfl)) (by unfold Func.isWrapper; first | (rw [if_pos (by decide +kernel)]; kernel_rfl) | (rw [if_neg (by decide +kernel)]; exact ⟨rfl, rfl⟩))
    (fun os started H enc _ => lifted os started H enc)

end Go.Proofs.Ytnnonkmkdjhacaa.linesPlays
