/-
  LinesLeast holds: what is opened was free, and no free line was erased less; for whatever came in. No condition.
-/
import Derived.Test.YtnnonkmkdjhacaaLinesBegin
import Derived.Test.YtnnonkmkdjhacaaLawKit
import Derived.Test.YtnnonkmkdjhacaaStructs
import Derived.OpenShut
import Derived.Test.YtnnonkmkdjhacaaLinesWas
import Derived.Test.YtnnonkmkdjhacaaBag
import Derived.Deep.DeepCutAuto
import Derived.Deep.CutBlock
import Derived.Deep.QuietTactic
import Derived.BigQuiet
namespace Go.Proofs.Ytnnonkmkdjhacaa.linesLeast
open Go.RowKit Go.ChangeShapes Go.WideShapes Lines LinesPkg LinesLaw
open Nand (Shape upd)
set_option maxRecDepth 4000

theorem wpList_append_run {Pr : Program} {w w' : World} {ops : Array Oper} {rest : List Oper} {o : Oper} {a : Act} {Q : Exit → Act → World → Prop} (hgd : o.guard = none) (s x : Operand) (t : TypeId)
    (ho : o.op = .call { callee := .builtin .append, args := #[s, x], argTypes := #[t, t] }) (v1 v2 v' : Value) (hs : a.eval s = v1) (hx : a.eval x = v2) (hrun : ∀ ty, (Builtin.append_ #[t, t] ty #[v1, v2]).run Pr w = .ok v' w') (h : wpList Pr ops Q rest (a.put o.dst v') w') : wpList Pr ops Q (o :: rest) a w :=
  wpList_plain hgd fun _ hK => by
    unfold Oper.wp execOp
    simp only [ho, resolve, invoke, builtin, Sem.run_bind, Sem.run_pure, Result.andThen_ok, List.map_toArray, List.map_cons, List.map_nil, hs, hx, hrun]
    exact hK _ _ h

theorem below_dn {B : Nat} {a w : World} (h : Below B a w) (n : Nat) : Below B a (w.drewN n) := ⟨h.os, h.tape, h.output, h.size, h.block⟩

set_option maxHeartbeats 8000000 in
theorem walk (c l k p s : Int) (A1 : Option Addr) (n1 c1 : Nat) (zs1 : List Int) (A2 : Option Addr) (n2 c2 : Nat) (zs2 : List Int) (A : Option Addr) (m cp : Nat) (w : World) (hset1 : n1 ≤ c1 ∧ c1 ≤ maxLen ∧ Nums w w.heap.size A1 n1 zs1) (hset2 : n2 ≤ c2 ∧ c2 ≤ maxLen ∧ Nums w w.heap.size A2 n2 zs2) (hmc : m ≤ cp) (hcm : cp ≤ maxLen) (hr : LinesOps.Ops w w.heap.size A m) :
    Calls Try.prog 5 #[.agg #[.int .i64 c, .int .i64 l, .int .i64 k, .int .i64 p, .int .i64 s], .agg #[.slice A1 n1 c1, .slice A2 n2 c2], .slice A m cp] w fun e w' => e = .returned (.bool true) ∧ Below w.heap.size w w' := by
  obtain ⟨q1, q2, hr1⟩ := hset1
  obtain ⟨q3, q4, hr2⟩ := hset2
  have hn1 := Nat.le_trans q1 q2
  have hn2 := Nat.le_trans q3 q4
  unfold maxLen at hn1 hn2
  clear q1 q2 q3 q4
  have HOPS := Lib.hid hr
  have hm := Nat.le_trans hmc hcm
  unfold maxLen at hm
  clear hr hmc hcm
  rcases New_split c l k p s A1 n1 c1 zs1 A2 n2 c2 zs2 w hr1 hr2 with hN | ⟨G, hG, rfl, rfl, rfl, rfl, rfl, h21, hnk, hf1, hf2⟩
  · have HN := Lib.hid hN
    clear hN
    obtain ⟨og, hog⟩ : ∃ o, o = Obj.cells #[.int .i64 c, .int .i64 l, .int .i64 k, .int .i64 p, .int .i64 s] 23 := ⟨_, rfl⟩
    obtain ⟨os, hos⟩ : ∃ o, o = Obj.cells #[.slice A1 n1 c1, .slice A2 n2 c2] 36 := ⟨_, rfl⟩
    obtain ⟨a, ha⟩ : ∃ a, a = (w.alloc og).alloc os := ⟨_, rfl⟩
    have hwa : Below w.heap.size w a := by rw [ha]; exact ((Below.refl _ _).alloc (Nat.le_refl _) _).alloc (by simp) _
    have hgeo : Geo a w.heap.size c l k p s := by rw [ha, hog]; exact geo_keep (geo_new w _ _ _ _ _ _) ((Below.refl _ _).alloc (Nat.le_refl _) _)
    have hset : a.heap[w.heap.size + 1]? = some (.cells #[.slice A1 n1 c1, .slice A2 n2 c2] 36 (0, 0)) := by
      have := heap_alloc_new (w.alloc og) (.cells #[.slice A1 n1 c1, .slice A2 n2 c2] 36)
      rw [World.size_alloc] at this
      rw [ha, hos]
      exact this
    have HWA := Lib.hid hwa
    have HGEO := Lib.hid hgeo
    have HSET := Lib.hid hset
    have HA0 := Lib.hid ha
    have HAW := Lib.hid (fun w => awake_any w)
    have HBW := Lib.hid (fun (w' : World) (hb : Below a.heap.size a w') => show Below w.heap.size w w' from hwa.trans (hb.mono hwa.size))
    have HR1 := Lib.hid hr1
    have HR2 := Lib.hid hr2
    clear hwa hgeo hset ha hr1 hr2
    go_enter Try.func5, Try.ntmps5
    go_wp2_with fail
    rw [← hog, ← hos, ← HA0.out]
    refine (HAW.out a).mono ?_
    rintro e1 wa ⟨rfl, hb⟩
    have HA := Lib.hid hb
    clear hb
    obtain ⟨k0, k1, k2, k3, k4⟩ := geo_keep HGEO.out HA.out
    obtain ⟨s0, s1⟩ := cells2 ((HA.out.block _ (Array.getElem?_eq_some_iff.1 HSET.out).1).trans HSET.out)
    go_wp2_with fail
    refine (HN.out wa (HBW.out _ HA.out)).mono ?_
    rintro e2 w2 ⟨rfl, hb⟩
    have HB2 := Lib.hid (below_then HA.out hb)
    clear hb k0 k1 k2 k3 k4 s0 s1
    go_wp2
    go_ret
    exact ⟨rfl, HBW.out _ HB2.out⟩
  subst n2
  have HNW := Lib.hid (fun (a w' : World) (h1 : Below a.heap.size a w') (h2 : Below w.heap.size w w') => New_m hG A1 n1 c1 A2 c2 zs1 zs2 a w' h1 (nums_more (nums_keep hr1 h2) h2.size) hf1 (nums_more (nums_keep hr2 h2) h2.size) hf2)
  have HST := Lib.hid (start_is zs1 zs2)
  generalize LinesPkg.start zs1 zs2 = f at HNW HST
  have HGK := Lib.hid hG
  clear hG hf1 hf2
  obtain ⟨og, hog⟩ : ∃ o, o = Obj.cells #[.int .i64 G.c, .int .i64 G.l, .int .i64 G.k, .int .i64 G.p, .int .i64 G.s] 23 := ⟨_, rfl⟩
  obtain ⟨os, hos⟩ : ∃ o, o = Obj.cells #[.slice A1 n1 c1, .slice A2 n1 c2] 36 := ⟨_, rfl⟩
  obtain ⟨a, ha⟩ : ∃ a, a = (w.alloc og).alloc os := ⟨_, rfl⟩
  have hwa : Below w.heap.size w a := by rw [ha]; exact ((Below.refl _ _).alloc (Nat.le_refl _) _).alloc (by simp) _
  have hgeo : Geo a w.heap.size G.c G.l G.k G.p G.s := by rw [ha, hog]; exact geo_keep (geo_new w _ _ _ _ _ _) ((Below.refl _ _).alloc (Nat.le_refl _) _)
  have hset : a.heap[w.heap.size + 1]? = some (.cells #[.slice A1 n1 c1, .slice A2 n1 c2] 36 (0, 0)) := by
    have := heap_alloc_new (w.alloc og) (.cells #[.slice A1 n1 c1, .slice A2 n1 c2] 36)
    rw [World.size_alloc] at this
    rw [ha, hos]
    exact this
  have HWA := Lib.hid hwa
  have HGEO := Lib.hid hgeo
  have HSET := Lib.hid hset
  have HA0 := Lib.hid ha
  have HAW := Lib.hid (fun w => awake_any w)
  have HBW := Lib.hid (fun (w' : World) (hb : Below a.heap.size a w') => show Below w.heap.size w w' from hwa.trans (hb.mono hwa.size))
  have HR1 := Lib.hid hr1
  have HR2 := Lib.hid hr2
  clear hwa hgeo hset ha hr1 hr2
  go_enter Try.func5, Try.ntmps5
  go_wp2_with fail
  rw [← hog, ← hos, ← HA0.out]
  refine (HAW.out a).mono ?_
  rintro e1 wa ⟨rfl, hb⟩
  have HA := Lib.hid hb
  clear hb
  obtain ⟨k0, k1, k2, k3, k4⟩ := geo_keep HGEO.out HA.out
  obtain ⟨s0, s1⟩ := cells2 ((HA.out.block _ (Array.getElem?_eq_some_iff.1 HSET.out).1).trans HSET.out)
  have HNX := Lib.hid (HNW.out a wa HA.out (HBW.out _ HA.out))
  clear HNW
  go_wp2_with fail
  refine HNX.out.mono ?_
  rintro e2 w2 ⟨gd, rfl, h⟩
  have H := Lib.hid h
  clear h HNX k0 k1 k2 k3 k4 s0 s1
  have HN := Lib.hid H.out.inv
  have hk64 := HN.out.2.2.1
  have hk0 := HN.out.2.2.2.1
  have hkG := HN.out.2.1
  clear HN
  go_wp2_with fail
  go_loopw [10, 11, 12, 13, 14, 15, 16, 17, 18] (fun i _ _ _ _ _ _ _ _ wr => ∃ (j : Nat) (f : St), i = .int .i64 (j : Int) ∧ j ≤ m ∧ Mine G n1 a gd f [] wr) (fun i _ _ _ _ _ _ _ _ _ => m - (intOf i).toNat)
  case atStart => exact ⟨0, f, rfl, by omega, H.out⟩
  case round =>
    clear H HST
    obtain ⟨j, f, rfl, hj, h⟩ := hrel
    have H := Lib.hid h
    clear h
    by_cases hgo : j < m ∧ j < 100
    rotate_left
    · have hstop : decide (j < m) = false ∨ (decide (j < m) = true ∧ decide ((j : Int) < 100) = false) := by
        by_cases h : j < m
        · exact .inr ⟨decide_eq_true (by omega), decide_eq_false (by omega)⟩
        · exact .inl (decide_eq_false (by omega))
      clear hgo
      rcases hstop with h1 | ⟨h1, h2⟩
      all_goals
        go_wp2
        go_ret
        exact ⟨rfl, HBW.out _ H.out.below⟩
    obtain ⟨hlt, hlt2⟩ := hgo
    obtain ⟨b, off, x0, x1, own, rfl, ho⟩ := HOPS.out j hlt
    have HOP := Lib.hid (fun (w' : World) (hb : Below a.heap.size a w') => ho.keep (HBW.out _ hb))
    clear ho
    have hlt' : (j : Int) < m := by omega
    obtain ⟨c0, c1', c2', _⟩ := HOP.out _ H.out.below
    go_upto_if 55 with fail
    go_cut [11] (fun nv wx => ∃ N : Int, nv = .int .i64 N ∧ Mine G n1 a gd f [] wx)
    case first =>
      cases own
      · go_wp2_with fail
        go_meet
        exact ⟨_, rfl, H.out⟩
      · have HC := Lib.hid (Current_m H.out)
        generalize cur f n1 = C at HC
        go_wp2_with fail
        refine HC.out.mono ?_
        rintro e4 w4 ⟨rfl, h, _⟩
        replace H := Lib.hid h
        clear h HC
        go_wp2_with fail
        go_meet
        exact ⟨_, rfl, H.out⟩
    case rest =>
    clear H c0 c1' c2'
    obtain ⟨N, rfl, h⟩ := hcut
    have H := Lib.hid h
    clear h
    obtain ⟨c0, c1', c2', _⟩ := HOP.out _ H.out.below
    clear HOP
    by_cases hx0 : x0 = 0
    · subst hx0
      go_wp2_with fail
      go_loopw [12, 13, 14, 15] (fun v i _ _ wq => ∃ (t c : Nat) (A : Option Addr), i = .int .i64 (t : Int) ∧ v = .slice A t c ∧ t ≤ n1 ∧ Was G n1 a gd f (.slice A t c) (lrows G f t) wq) (fun _ i _ _ _ => n1 - (intOf i).toNat)
      case atStart => exact ⟨0, 0, none, rfl, rfl, by omega, was_start H.out⟩
      case round =>
        clear H
        obtain ⟨t, cc, A0, rfl, rfl, ht, h⟩ := hrel
        have H := Lib.hid h
        clear h
        obtain ⟨k0, k1, k2, k3, k4⟩ := geo_keep HGEO.out H.out.below
        by_cases htn : t < n1
        · have htn' : (t : Int) < G.k := by omega
          have ht64 : (t : Int) < 64 := by omega
          have HC := Lib.hid (was_get H.out t htn)
          have HM := Lib.hid (fun w (h : Was G n1 a gd f (.slice A0 t cc) (lrows G f t) w) => was_more h (by omega))
          unfold lineV at HC
          generalize (f t).st = x0 at HC HM
          generalize (f t).wr = x1 at HC HM
          generalize (f t).gd = x2 at HC HM
          generalize room G x2 = R at HC HM
          go_wp2_with fail
          refine HC.out.mono ?_
          rintro e5 w5 ⟨rfl, h⟩
          replace H := Lib.hid h
          clear h HC k0 k1 k2 k3 k4
          go_upto_region 19 with fail
          refine at_wld ?_
          intro X hX
          have hXb : Below w5.heap.size w5 X := by rw [hX]; exact (Below.refl _ _).alloc (Nat.le_refl _) _
          have hYb : X.heap[w5.heap.size]? = some (.cells #[.int .i64 x0, .int .i64 x1, .int .i64 x2, .int .i64 0, .int .i64 R] 45 (0, 0)) := by rw [hX]; exact heap_alloc_new w5 _
          obtain ⟨y0, y1, y2, y3, y4⟩ := cells5' hYb
          obtain ⟨A6, c6, w6, hrun, h6⟩ := HM.out X (H.out.on hXb)
          have H6 := Lib.hid h6
          clear hX hXb hYb HM h6
          go_wp2_with (at_builtin; refine wpList_append_run (o := ⟨some 85, _, _, _, _, _⟩) rfl _ _ _ rfl (.slice A0 t cc) (.slice (some ⟨X.heap.size, 0, none⟩) 1 1) _ rfl rfl (fun _ => hrun) ?_)
          clear hrun y0 y1 y2 y3 y4
          go_wp2
          go_roundw
          case rel => exact ⟨t + 1, c6, A6, by go_num, rfl, by omega, H6.out⟩
          case measure => simp [intOf]; omega
        · obtain rfl : t = n1 := by omega
          have hex : decide ((t : Int) < G.k) = false := decide_eq_false (by omega)
          have HC := Lib.hid (was_open H.out)
          unfold LinesPkg.pairV at HC
          rcases open_cases f t with ⟨x, e, hR, he⟩ | ⟨i, hi, hR, hs, hl⟩
          · rw [hR] at HC
            dsimp only at HC
            have hee : (e == 0) = false := by simpa using he
            clear hR he
            go_wp2_with fail
            refine HC.out.mono ?_
            rintro e5 w5 ⟨rfl, h⟩
            replace H := Lib.hid h
            clear h HC k0 k1 k2 k3 k4
            go_wp2
            go_roundw
            case rel => exact ⟨j + 1, _, by go_num, by omega, H.out.mine⟩
            case measure => simp [intOf]; omega
          rw [hR] at HC
          dsimp only at HC
          have HLS := Lib.hid hl
          obtain ⟨A', c', hform, _, _, hA'⟩ := H.out.rows.form
          rw [lrows_len] at hform hA'
          injection hform with hf1 hf2 hf3
          obtain ⟨gg, rfl⟩ := hA' (by omega)
          subst hf1 hf3
          have hri : (lrow G (f i))[0]? = some (.int .i64 0) := by rw [show lrow G (f i) = _ from rfl]; unfold lrow; rw [hs]; rfl
          have HRI := Lib.hid hri
          clear hR hl hf2 hA' hri hs
          generalize openS f t = g at HC
          go_wp2_with fail
          refine HC.out.mono ?_
          rintro e5 w5 ⟨rfl, h⟩
          replace H := Lib.hid h
          clear h HC k0 k1 k2 k3 k4
          have hi' : (i : Int) < t := by omega
          have z0 := was_cell H.out (lrows_at G f hi) HRI.out
          rw [Nat.add_zero] at z0
          go_wp2_with fail
          go_loopw [18] (fun k wq => ∃ q : Nat, k = .int .i64 (q : Int) ∧ q ≤ t ∧ Was G t a gd g (.slice (some ⟨gg, 0, none⟩) t cc) (lrows G f t) wq) (fun k _ => t - (intOf k).toNat)
          case atStart => exact ⟨0, rfl, by omega, H.out⟩
          case round =>
            clear H z0
            obtain ⟨q, rfl, hq, h⟩ := hrel
            have H := Lib.hid h
            clear h
            by_cases hqt : q < t
            · have hqt' : (q : Int) < t := by omega
              have z1 := was_cell (j := 0) H.out (lrows_at G f hqt) rfl
              have z2 := was_cell (j := 1) H.out (lrows_at G f hqt) rfl
              have z3 := was_cell (j := 1) H.out (lrows_at G f hi) rfl
              rw [Nat.add_zero] at z1
              have hb := HLS.out q hqt
              obtain ⟨S, hS⟩ : ∃ S, (f q).st = S := ⟨_, rfl⟩
              obtain ⟨Wq, hWq⟩ : ∃ S, (f q).wr = S := ⟨_, rfl⟩
              obtain ⟨Wi, hWi⟩ : ∃ S, (f i).wr = S := ⟨_, rfl⟩
              rw [hS] at z1
              rw [hWq] at z2
              rw [hWi] at z3
              rw [hS, hWq, hWi] at hb
              clear hS hWq hWi
              by_cases hs0 : S = 0
              · subst hs0
                have hb := hb rfl
                have d1 : decide (Wq < Wi) = false := decide_eq_false (by omega)
                by_cases hww : Wq = Wi
                · subst hww
                  have d2 : decide (q < i) = false := decide_eq_false (by have := hb.2 rfl; omega)
                  clear hb
                  go_wp2_with fail
                  go_quiet (fail)
                  go_wp2
                  go_roundw
                  case rel => exact ⟨q + 1, by go_num, by omega, H.out.on (below_dn (Below.refl _ _) nq)⟩
                  case measure => simp [intOf]; omega
                · have d2 : (Wq == Wi) = false := by simpa using hww
                  clear hb hww
                  go_wp2_with fail
                  go_quiet (fail)
                  go_wp2
                  go_roundw
                  case rel => exact ⟨q + 1, by go_num, by omega, H.out.on (below_dn (Below.refl _ _) nq)⟩
                  case measure => simp [intOf]; omega
              · have d1 : (S == 0) = false := by simpa using hs0
                clear hb hs0
                go_wp2_with fail
                go_quiet (fail)
                go_wp2
                go_roundw
                case rel => exact ⟨q + 1, by go_num, by omega, H.out.on (below_dn (Below.refl _ _) nq)⟩
                case measure => simp [intOf]; omega
            · obtain rfl : q = t := by omega
              have hex2 : decide ((q : Int) < (q : Int)) = false := decide_eq_false (by omega)
              go_wp2
              go_roundw
              case rel => exact ⟨j + 1, _, by go_num, by omega, H.out.mine⟩
              case measure => simp [intOf]; omega
    by_cases hx1 : x0 = 1
    · subst hx1
      go_wp2_with fail
      go_loopw [12, 13, 14, 15] (fun v i _ _ wq => ∃ (t c : Nat) (A : Option Addr), i = .int .i64 (t : Int) ∧ v = .slice A t c ∧ t ≤ n1 ∧ Was G n1 a gd f (.slice A t c) (lrows G f t) wq) (fun _ i _ _ _ => n1 - (intOf i).toNat)
      case atStart => exact ⟨0, 0, none, rfl, rfl, by omega, was_start H.out⟩
      case round =>
        clear H
        obtain ⟨t, cc, A0, rfl, rfl, ht, h⟩ := hrel
        have H := Lib.hid h
        clear h
        obtain ⟨k0, k1, k2, k3, k4⟩ := geo_keep HGEO.out H.out.below
        by_cases htn : t < n1
        · have htn' : (t : Int) < G.k := by omega
          have ht64 : (t : Int) < 64 := by omega
          have HC := Lib.hid (was_get H.out t htn)
          have HM := Lib.hid (fun w (h : Was G n1 a gd f (.slice A0 t cc) (lrows G f t) w) => was_more h (by omega))
          unfold lineV at HC
          generalize (f t).st = x0 at HC HM
          generalize (f t).wr = x1 at HC HM
          generalize (f t).gd = x2 at HC HM
          generalize room G x2 = R at HC HM
          go_wp2_with fail
          refine HC.out.mono ?_
          rintro e5 w5 ⟨rfl, h⟩
          replace H := Lib.hid h
          clear h HC k0 k1 k2 k3 k4
          go_upto_region 19 with fail
          refine at_wld ?_
          intro X hX
          have hXb : Below w5.heap.size w5 X := by rw [hX]; exact (Below.refl _ _).alloc (Nat.le_refl _) _
          have hYb : X.heap[w5.heap.size]? = some (.cells #[.int .i64 x0, .int .i64 x1, .int .i64 x2, .int .i64 0, .int .i64 R] 45 (0, 0)) := by rw [hX]; exact heap_alloc_new w5 _
          obtain ⟨y0, y1, y2, y3, y4⟩ := cells5' hYb
          obtain ⟨A6, c6, w6, hrun, h6⟩ := HM.out X (H.out.on hXb)
          have H6 := Lib.hid h6
          clear hX hXb hYb HM h6
          go_wp2_with (at_builtin; refine wpList_append_run (o := ⟨some 85, _, _, _, _, _⟩) rfl _ _ _ rfl (.slice A0 t cc) (.slice (some ⟨X.heap.size, 0, none⟩) 1 1) _ rfl rfl (fun _ => hrun) ?_)
          clear hrun y0 y1 y2 y3 y4
          go_wp2
          go_roundw
          case rel => exact ⟨t + 1, c6, A6, by go_num, rfl, by omega, H6.out⟩
          case measure => simp [intOf]; omega
        · obtain rfl : t = n1 := by omega
          have hex : decide ((t : Int) < G.k) = false := decide_eq_false (by omega)
          have HC := Lib.hid (was_open H.out)
          unfold LinesPkg.pairV at HC
          rcases open_cases f t with ⟨x, e, hR, he⟩ | ⟨i, hi, hR, hs, hl⟩
          · rw [hR] at HC
            dsimp only at HC
            have hee : (e == 0) = false := by simpa using he
            clear hR he
            go_wp2_with fail
            refine HC.out.mono ?_
            rintro e5 w5 ⟨rfl, h⟩
            replace H := Lib.hid h
            clear h HC k0 k1 k2 k3 k4
            go_wp2
            go_roundw
            case rel => exact ⟨j + 1, _, by go_num, by omega, H.out.mine⟩
            case measure => simp [intOf]; omega
          rw [hR] at HC
          dsimp only at HC
          have HLS := Lib.hid hl
          obtain ⟨A', c', hform, _, _, hA'⟩ := H.out.rows.form
          rw [lrows_len] at hform hA'
          injection hform with hf1 hf2 hf3
          obtain ⟨gg, rfl⟩ := hA' (by omega)
          subst hf1 hf3
          have hri : (lrow G (f i))[0]? = some (.int .i64 0) := by rw [show lrow G (f i) = _ from rfl]; unfold lrow; rw [hs]; rfl
          have HRI := Lib.hid hri
          clear hR hl hf2 hA' hri hs
          generalize openS f t = g at HC
          go_wp2_with fail
          refine HC.out.mono ?_
          rintro e5 w5 ⟨rfl, h⟩
          replace H := Lib.hid h
          clear h HC k0 k1 k2 k3 k4
          have hi' : (i : Int) < t := by omega
          have z0 := was_cell H.out (lrows_at G f hi) HRI.out
          rw [Nat.add_zero] at z0
          go_wp2_with fail
          go_loopw [18] (fun k wq => ∃ q : Nat, k = .int .i64 (q : Int) ∧ q ≤ t ∧ Was G t a gd g (.slice (some ⟨gg, 0, none⟩) t cc) (lrows G f t) wq) (fun k _ => t - (intOf k).toNat)
          case atStart => exact ⟨0, rfl, by omega, H.out⟩
          case round =>
            clear H z0
            obtain ⟨q, rfl, hq, h⟩ := hrel
            have H := Lib.hid h
            clear h
            by_cases hqt : q < t
            · have hqt' : (q : Int) < t := by omega
              have z1 := was_cell (j := 0) H.out (lrows_at G f hqt) rfl
              have z2 := was_cell (j := 1) H.out (lrows_at G f hqt) rfl
              have z3 := was_cell (j := 1) H.out (lrows_at G f hi) rfl
              rw [Nat.add_zero] at z1
              have hb := HLS.out q hqt
              obtain ⟨S, hS⟩ : ∃ S, (f q).st = S := ⟨_, rfl⟩
              obtain ⟨Wq, hWq⟩ : ∃ S, (f q).wr = S := ⟨_, rfl⟩
              obtain ⟨Wi, hWi⟩ : ∃ S, (f i).wr = S := ⟨_, rfl⟩
              rw [hS] at z1
              rw [hWq] at z2
              rw [hWi] at z3
              rw [hS, hWq, hWi] at hb
              clear hS hWq hWi
              by_cases hs0 : S = 0
              · subst hs0
                have hb := hb rfl
                have d1 : decide (Wq < Wi) = false := decide_eq_false (by omega)
                by_cases hww : Wq = Wi
                · subst hww
                  have d2 : decide (q < i) = false := decide_eq_false (by have := hb.2 rfl; omega)
                  clear hb
                  go_wp2_with fail
                  go_quiet (fail)
                  go_wp2
                  go_roundw
                  case rel => exact ⟨q + 1, by go_num, by omega, H.out.on (below_dn (Below.refl _ _) nq)⟩
                  case measure => simp [intOf]; omega
                · have d2 : (Wq == Wi) = false := by simpa using hww
                  clear hb hww
                  go_wp2_with fail
                  go_quiet (fail)
                  go_wp2
                  go_roundw
                  case rel => exact ⟨q + 1, by go_num, by omega, H.out.on (below_dn (Below.refl _ _) nq)⟩
                  case measure => simp [intOf]; omega
              · have d1 : (S == 0) = false := by simpa using hs0
                clear hb hs0
                go_wp2_with fail
                go_quiet (fail)
                go_wp2
                go_roundw
                case rel => exact ⟨q + 1, by go_num, by omega, H.out.on (below_dn (Below.refl _ _) nq)⟩
                case measure => simp [intOf]; omega
            · obtain rfl : q = t := by omega
              have hex2 : decide ((q : Int) < (q : Int)) = false := decide_eq_false (by omega)
              go_wp2
              go_roundw
              case rel => exact ⟨j + 1, _, by go_num, by omega, H.out.mine⟩
              case measure => simp [intOf]; omega
    by_cases hx2 : x0 = 2
    · subst hx2
      clear hx0 hx1
      have HC := Lib.hid (Close_m H.out)
      unfold LinesPkg.pairV at HC
      generalize closeR f n1 = Q at HC
      obtain ⟨q1, q2⟩ := Q
      dsimp only at HC
      go_wp2_with fail
      refine HC.out.mono ?_
      rintro e4 w4 ⟨rfl, h⟩
      replace H := Lib.hid h
      clear h HC c0 c1' c2'
      go_wp2
      go_roundw
      case rel => exact ⟨j + 1, _, by go_num, by omega, H.out⟩
      case measure => simp [intOf]; omega
    by_cases hx3 : x0 = 3
    · subst hx3
      clear hx0 hx1 hx2
      have HC := Lib.hid (Release_m H.out N)
      generalize chg f n1 N 2 = Q at HC
      go_wp2_with fail
      refine HC.out.mono ?_
      rintro e4 w4 ⟨rfl, h⟩
      replace H := Lib.hid h
      clear h HC c0 c1' c2'
      go_wp2
      go_roundw
      case rel => exact ⟨j + 1, _, by go_num, by omega, H.out⟩
      case measure => simp [intOf]; omega
    by_cases hx4 : x0 = 4
    · subst hx4
      clear hx0 hx1 hx2 hx3
      have HC := Lib.hid (Erased_m H.out N)
      generalize chg f n1 N 1 = Q at HC
      go_wp2_with fail
      refine HC.out.mono ?_
      rintro e4 w4 ⟨rfl, h⟩
      replace H := Lib.hid h
      clear h HC c0 c1' c2'
      go_wp2
      go_roundw
      case rel => exact ⟨j + 1, _, by go_num, by omega, H.out⟩
      case measure => simp [intOf]; omega
    have b0 : (x0 == 0) = false := by simp; omega
    have b1 : (x0 == 1) = false := by simp; omega
    have b2 : (x0 == 2) = false := by simp; omega
    have b3 : (x0 == 3) = false := by simp; omega
    have b4 : (x0 == 4) = false := by simp; omega
    clear hx0 hx1 hx2 hx3 hx4
    go_wp2
    go_roundw
    case rel => exact ⟨j + 1, _, by go_num, by omega, H.out⟩
    case measure => simp [intOf]; omega

theorem own : ownKnob Try.prog.godebug = none := by kernel_rfl
theorem laid : laidOutB Try.prog = true := by kernel_rfl

set_option maxRecDepth 100000 in
theorem lifted (os : Os) (started : os.Started) (H : Type) (enc : TypeId × Value → H) :
    ReturnsInHanded {} Try.checked os 5 .any (Rows.linesLeastSpec.pre6 enc Try.prog Try.f5 Rows.linesLeastRow.domain false) (Rows.linesLeastSpec.post enc Try.prog Try.f5 false true false false) := by
  refine returnsInHanded_of_change (C := Try.checked) own started (by kernel_rfl) Try.func5
    (ChangeSpec.witness6 (enc := enc) (C := Try.checked) false ⟨#[], #[.agg #[.int .i64 0, .int .i64 0, .int .i64 0, .int .i64 0, .int .i64 0], .agg #[.slice none 0 0, .slice none 0 0], .slice none 0 0], []⟩ 8 (by kernel_rfl) (by kernel_rfl) (by kernel_rfl) (by kernel_rfl)) ?_
  intro W base args ds gs before hval0 hW _ _
  have hval : ∀ (j : Nat) t v, Try.f5.params[j]? = some t → args[j]? = some v → Value.okWide Try.prog W .any base t v := hval0
  have hW' := hW
  obtain ⟨p, q, hA0, hV, rfl, hfz, hnd⟩ := hW
  have hA : DataW.TrodAll enc Try.prog W 0 (fun _ => true) true Try.f5.params.toList args.toList ds p := hA0
  rw [Try.params5] at hA hval
  obtain ⟨v0, v1, v2, d0, d1, d2, p0, p1, p2, rfl, rfl, rfl, h0, h1, h2⟩ := trodAll_three hA
  obtain ⟨c0, l0, k0, q0, s0, rfl⟩ := open_geo Try.underlying23 rfl (by kernel_rfl) (by kernel_rfl) (hval 0 23 v0 rfl rfl) h0
  obtain ⟨A1a, n1a, c1a, zs1a, A1b, n1b, c1b, zs1b, rfl, hsa1, hsb1⟩ := LinesOps.open_setting (hval 1 36 v1 rfl rfl) h1
  obtain ⟨A2, n2, c2, rfl, hnc2, hcm2, hr2⟩ := LinesOps.open_ops (hval 2 37 v2 rfl rfl) h2
  refine (walk c0 l0 k0 q0 s0 A1a n1a c1a zs1a A1b n1b c1b zs1b A2 n2 c2 W hsa1 hsb1 hnc2 hcm2 hr2).mono fun e W' ⟨he, hb⟩ => ?_
  subst he
  exact ⟨_, rfl, Law.post laid (by kernel_rfl) (by kernel_rfl) Try.underlying4 rfl hW' rfl hb⟩

theorem proved : Rows.LinesLeastSaid :=
  OpenClaim.holds_of_wide 5 Try.f5 rfl rfl rfl rfl rfl rfl rfl ⟨rfl, rfl, rfl, rfl, rfl⟩ rfl rfl rfl rfl rfl (by kernel_rfl) Try.func5 (by kernel_rfl)
    (of_decide_eq_true (by kernel_rfl)) (by unfold Func.isWrapper; first | (rw [if_pos (by decide +kernel)]; kernel_rfl) | (rw [if_neg (by decide +kernel)]; exact ⟨rfl, rfl⟩))
    (fun os started H enc _ => lifted os started H enc)

end Go.Proofs.Ytnnonkmkdjhacaa.linesLeast
