/-
  QueueOrder holds: a channel's jobs come out as they were put in, in that order, whatever the other channels do. No condition.
-/
import Derived.Test.YtkpneckgpolaoaaQueueKit
import Derived.Test.YtkpneckgpolaoaaQueueOps
import Derived.BigQuiet
import Derived.Deep.RegionHeld3
namespace Go.Proofs.Ytkpneckgpolaoaa.queueOrder
open Go.RowKit Go.ChangeShapes Go.WideShapes Queue QueuePkg QueueLaw QueueOps
set_option maxRecDepth 4000

def row (zs : List Int) (j : Nat) : Jb := ⟨0, zs.getD j 0, 0, (j : Int), [(j : Int)]⟩
def rows (zs : List Int) (n : Nat) : List Jb := (List.range n).map (row zs)

theorem row_is {zs : List Int} {j : Nat} {x : Int} (hx : zs[j]? = some x) : row zs j = ⟨0, x, 0, (j : Int), [(j : Int)]⟩ := by simp [row, List.getD, hx]
theorem rows_len (zs : List Int) (n : Nat) : (rows zs n).length = n := by simp [rows]
theorem rows_more (zs : List Int) (n : Nat) : rows zs (n + 1) = rows zs n ++ [row zs n] := by simp [rows, List.range_succ]
theorem rows_drop (zs : List Int) {n t : Nat} (h : t < n) : (rows zs n).drop t = row zs t :: (rows zs n).drop (t + 1) := by
  rw [List.drop_eq_getElem_cons (by rw [rows_len]; exact h)]
  simp [rows]

/-- Channel 2 has l, none has more than n. -/
structure Has (q : Js) (l : List Jb) (n : Nat) : Prop where
  two : q 2 = l
  few : ∀ c, (q c).length ≤ n

theorem Has.jobs {q : Js} {l : List Jb} {n : Nat} (h : Has q l n) : jobs 4 q 2 = l := h.two

theorem Has.len {q : Js} {l : List Jb} {n : Nat} (h : Has q l n) (c : Int) : (Queue.jobs 4 q c).length ≤ n := by
  unfold Queue.jobs
  split
  · exact h.few _
  · simp

theorem Has.put {q : Js} {l : List Jb} {n : Nat} (h : Has q l n) (j : Jb) : Has (putQ 4 q 2 j) (l ++ [j]) (n + 1) := by
  have e : putQ 4 q 2 j = upd q 2 (q 2 ++ [j]) := rfl
  rw [e]
  refine ⟨by rw [upd_same, h.two], fun c => ?_⟩
  by_cases hc : c = 2
  · subst hc
    rw [upd_same, List.length_append, List.length_singleton]
    have := h.few 2
    omega
  · rw [upd_other _ hc]
    exact Nat.le_succ_of_le (h.few c)

theorem Has.put2 {q : Js} {l : List Jb} {n : Nat} (h : Has q l n) {c : Int} (hc : c ≠ 2) (j : Jb) : Has (putQ 4 q c j) l (n + 1) := by
  unfold putQ
  split
  · refine ⟨by rw [upd_other _ (by omega)]; exact h.two, fun d => ?_⟩
    by_cases hd : d = c.toNat
    · rw [hd, upd_same, List.length_append, List.length_singleton]
      have := h.few c.toNat
      omega
    · rw [upd_other _ hd]
      exact Nat.le_succ_of_le (h.few d)
  · exact ⟨h.two, fun d => Nat.le_succ_of_le (h.few d)⟩

theorem Has.pop2 {q : Js} {l : List Jb} {n : Nat} (h : Has q l n) {c : Int} (hc : c ≠ 2) : Has (popQ 4 q c) l n := by
  unfold popQ
  split
  · refine ⟨by rw [upd_other _ (by omega)]; exact h.two, fun d => ?_⟩
    by_cases hd : d = c.toNat
    · rw [hd, upd_same, List.length_drop]
      have := h.few c.toNat
      omega
    · rw [upd_other _ hd]
      exact h.few d
  · exact h

theorem Has.pop {q : Js} {j : Jb} {l : List Jb} {n : Nat} (h : Has q (j :: l) n) : Has (popQ 4 q 2) l n := by
  have e : popQ 4 q 2 = upd q 2 ((q 2).drop 1) := rfl
  rw [e]
  refine ⟨by rw [upd_same, h.two]; rfl, fun c => ?_⟩
  by_cases hc : c = 2
  · subst hc
    rw [upd_same, List.length_drop]
    have := h.few 2
    omega
  · rw [upd_other _ hc]
    exact h.few c

theorem Has.more {q : Js} {l : List Jb} {n m : Nat} (h : Has q l n) (hm : n ≤ m) : Has q l m := ⟨h.two, fun c => Nat.le_trans (h.few c) hm⟩

theorem own_one {w : World} {base : Nat} {e : TypeId} {A : Option Addr} {n c : Nat} {z : Int} (h : OwnI w base e (.slice A n c) [z]) : n = 1 ∧ 1 ≤ c ∧ c ≤ maxLen ∧ ∃ b, A = some ⟨b, 0, none⟩ ∧ b < w.heap.size ∧ w.cell? ⟨b, 0, none⟩ = some (.int .i64 z) := by
  obtain rfl : 1 = n := h.len
  obtain ⟨b, rfl, _, h1, h2⟩ := h.first (by omega)
  exact ⟨rfl, h1, h2, b, rfl, h.lt b rfl, (h.cell (i := 0) rfl).1⟩

set_option maxHeartbeats 4000000 in
theorem walk (A : Option Addr) (n cap : Nat) (zs : List Int) (Ao : Option Addr) (no capo : Nat) (w : World) (_hnc : n ≤ cap) (hcm : cap ≤ maxLen) (hr : Nums w w.heap.size A n zs) (_hnco : no ≤ capo) (_hcmo : capo ≤ maxLen) (hro : Ops w w.heap.size Ao no) :
    Calls Try.prog 5 #[.slice A n cap, .slice Ao no capo] w fun e w' => e = .returned (.bool true) ∧ Below w.heap.size w w' := by
  obtain ⟨N, hN⟩ : ∃ N, N = min n 100 := ⟨_, rfl⟩
  have hNn : N ≤ n := by omega
  have hNh : N ≤ 100 := by omega
  have hNe : N = n ∨ (N < n ∧ N = 100) := by omega
  have HA := Lib.hid (awake_any w)
  have HN := Lib.hid (fun X (hX : Below w.heap.size w X) => New_m (S := fun _ => False) 4 (by omega) (by omega) hX (fun b hb => hb.elim))
  have HP := Lib.hid (fun X g q l (j m : Nat) x A (hm : m ≤ 1000) (hq : Has q l m) (hX : Mine w g 4 q (fun _ => False) X) (hnu : Nums X X.heap.size A 1 [(j : Int)]) => Put_m hX 2 ⟨0, x, 0, (j : Int), [(j : Int)]⟩ A 1 1 X.heap.size (by omega) hnu (Nat.le_refl _) (Nat.le_trans (hq.len 2) (by omega)))
  simp only [show putE 4 2 = 0 from rfl] at HP
  have HR := Lib.hid hr
  have HRO := Lib.hid hro
  have HZ := Lib.hid hr.1
  unfold maxLen at hcm _hcmo
  clear hr hro hN
  go_enter Try.func5, Try.ntmps5
  go_wp2_with fail
  refine HA.out.mono ?_
  rintro e w1 ⟨rfl, hb1⟩
  have HW := Lib.hid hb1
  clear hb1 HA
  go_wp2_with fail
  refine (HN.out _ HW.out).mono ?_
  rintro e w2 ⟨rfl, hm, _⟩
  obtain ⟨g, hg⟩ : ∃ g, w1.heap.size = g := ⟨_, rfl⟩
  rw [hg] at hm ⊢
  have HM := Lib.hid hm
  have HH : Hid (Has (fun _ => []) (rows zs 0) 0) := Lib.hid ⟨rfl, fun _ => Nat.le_refl _⟩
  clear hm HN hg HW
  go_wp2
  go_loopw [8, 9] (fun k i wr => ∃ (j : Nat) (q : Js), k = .int .i64 (j : Int) ∧ i = .int .i64 (j : Int) ∧ j ≤ N ∧ Mine w g 4 q (fun _ => False) wr ∧ Hid (Has q (rows zs j) (2 * j))) (fun _ i _ => N - (intOf i).toNat)
  case atStart => exact ⟨0, _, rfl, rfl, by omega, HM.out, HH⟩
  case round =>
    obtain ⟨j, q, rfl, rfl, hj, hm, HH⟩ := hrel
    replace HM := Lib.hid hm
    clear hm
    have hj0 : (0 : Int) ≤ (j : Int) := by omega
    by_cases hjn : j < N
    · have hjn2 : (j : Int) < (n : Int) := by omega
      have hjh : (j : Int) < 100 := by omega
      obtain ⟨b, off, x, rfl, _, hx, hcell, _⟩ := (nums_keep HR.out HM.out.below).at_ (k := j) (by omega)
      have HX := Lib.hid (row_is hx)
      obtain ⟨Y, hY⟩ : ∃ Y, Y = wr.alloc (.cells #[.int .i64 (j : Int)] 3) := ⟨_, rfl⟩
      have hbY : Below wr.heap.size wr Y := by rw [hY]; exact (Below.refl _ _).alloc (Nat.le_refl _) _
      have hnu : Nums Y Y.heap.size (some ⟨wr.heap.size, 0, none⟩) 1 [(j : Int)] := by
        have h := nums_block (w := Y) (g := wr.heap.size) (j : Int) (by omega) (by omega) (by rw [hY]; exact heap_alloc_new wr _) rfl
        exact nums_more h (by rw [hY]; simp)
      have HC := Lib.hid (HP.out Y g q (rows zs j) j (2 * j) x _ (by omega) HH.out (HM.out.same hbY) hnu)
      rw [hY] at HC
      clear hx hbY hnu hY Y
      go_wp2_with fail
      refine HC.out.mono ?_
      rintro e w3 ⟨rfl, hm, _, _⟩
      have hh := HH.out.put ⟨0, x, 0, (j : Int), [(j : Int)]⟩
      rw [← HX.out, ← rows_more] at hh
      rw [← HX.out] at hm
      replace HM := Lib.hid hm
      replace HH := Lib.hid hh
      generalize putQ 4 q 2 (row zs j) = q1 at HM HH
      clear hm hh HC hcell HX
      by_cases hk : j < no
      · have hk2 : (j : Int) < (no : Int) := by omega
        obtain ⟨bo, oo, y, Ap, cp, rfl, hat⟩ := HRO.out j hk
        obtain ⟨c0, c1, c2, c3, c4, c5, c6, _, _, hcp, _⟩ := hat.keep HM.out.below
        have HAT := Lib.hid hat
        unfold maxLen at hcp
        clear hat
        obtain ⟨yd, yc, ⟨yk, yl, yu, yp, ys⟩⟩ := y
        dsimp only at c0 c1 c2 c3 c4 c5 c6
        by_cases hp : ys.length ≤ 100
        · have hp2 : (ys.length : Int) ≤ 100 := by omega
          by_cases hc : yc = 2
          · subst hc
            go_wp2
            go_roundw
            case rel => exact ⟨j + 1, _, by go_num, by go_num, by omega, HM.out, Lib.hid (HH.out.more (by omega))⟩
            case measure => simp [intOf]; omega
          · have hc2 : (yc == 2) = false := by simpa using hc
            by_cases hd : yd < 2
            · have hmd := HM.out.same (w' := w3.drew) (Below.refl _ _).drew
              have HC := Lib.hid (Put_m hmd yc ⟨yk, yl, yu, yp, ys⟩ Ap ys.length cp w.heap.size (by omega) (nums_keep HAT.out.data hmd.below) hmd.below.size (Nat.le_trans (HH.out.len yc) (by omega)))
              go_upto_region 14 with fail
              have S0 : w3.cell? ⟨bo, oo + j * 7 + 1, none⟩ = some (.int .i64 yc) ∧ w3.cell? ⟨bo, oo + j * 7 + 2, none⟩ = some (.int .i64 yk) ∧ w3.cell? ⟨bo, oo + j * 7 + 2 + 1, none⟩ = some (.int .i64 yl) ∧ w3.cell? ⟨bo, oo + j * 7 + 2 + 2, none⟩ = some (.int .i64 yu) ∧ w3.cell? ⟨bo, oo + j * 7 + 2 + 3, none⟩ = some (.int .i64 yp) ∧ w3.cell? ⟨bo, oo + j * 7 + 2 + 4, none⟩ = some (.slice Ap ys.length cp) := ⟨c1, c2, c3, c4, c5, c6⟩
              clear c0 c1 c2 c3 c4 c5 c6 hmd
              go_region_held3 (fun w' => w'.cell? ⟨bo, oo + j * 7 + 1, none⟩ = some (.int .i64 yc) ∧ w'.cell? ⟨bo, oo + j * 7 + 2, none⟩ = some (.int .i64 yk) ∧ w'.cell? ⟨bo, oo + j * 7 + 2 + 1, none⟩ = some (.int .i64 yl) ∧ w'.cell? ⟨bo, oo + j * 7 + 2 + 2, none⟩ = some (.int .i64 yu) ∧ w'.cell? ⟨bo, oo + j * 7 + 2 + 3, none⟩ = some (.int .i64 yp) ∧ w'.cell? ⟨bo, oo + j * 7 + 2 + 4, none⟩ = some (.slice Ap ys.length cp))
                (first | exact S0 | exact S4)
                (first
                  | (go_at_call 16; refine HC.out.mono ?_; rintro e w4 ⟨rfl, hm, _, _⟩
                     have HM4 := Lib.hid hm
                     have S4 : w4.cell? ⟨bo, oo + j * 7 + 1, none⟩ = some (.int .i64 yc) ∧ w4.cell? ⟨bo, oo + j * 7 + 2, none⟩ = some (.int .i64 yk) ∧ w4.cell? ⟨bo, oo + j * 7 + 2 + 1, none⟩ = some (.int .i64 yl) ∧ w4.cell? ⟨bo, oo + j * 7 + 2 + 2, none⟩ = some (.int .i64 yu) ∧ w4.cell? ⟨bo, oo + j * 7 + 2 + 3, none⟩ = some (.int .i64 yp) ∧ w4.cell? ⟨bo, oo + j * 7 + 2 + 4, none⟩ = some (.slice Ap ys.length cp) := by
                       obtain ⟨_, c1, c2, c3, c4, c5, c6, _⟩ := HAT.out.keep hm.below
                       exact ⟨c1, c2, c3, c4, c5, c6⟩
                     clear hm))
              all_goals
                have HH2 := Lib.hid (HH.out.put2 hc ⟨yk, yl, yu, yp, ys⟩)
                clear HH HM HC S0 S4
                go_wp2
                go_roundw
                case rel => exact ⟨j + 1, _, by go_num, by go_num, by omega, HM4.out, Lib.hid (HH2.out.more (by omega))⟩
                case measure => simp [intOf]; omega
            · have HC := Lib.hid (Pop_m HM.out yc)
              go_wp2_with fail
              refine HC.out.mono ?_
              rintro e w4 ⟨v, rfl, _, hm, _, _⟩
              replace HM := Lib.hid (hm.less (S' := fun _ => False) (fun b hb => hb.elim))
              replace HH := Lib.hid (HH.out.pop2 hc)
              clear hm HC c0 c1 c2 c3 c4 c5 c6
              go_wp2
              go_roundw
              case rel => exact ⟨j + 1, _, by go_num, by go_num, by omega, HM.out, Lib.hid (HH.out.more (by omega))⟩
              case measure => simp [intOf]; omega
        · have hp2 : ¬ (ys.length : Int) ≤ 100 := by omega
          go_wp2
          go_roundw
          case rel => exact ⟨j + 1, _, by go_num, by go_num, by omega, HM.out, Lib.hid (HH.out.more (by omega))⟩
          case measure => simp [intOf]; omega
      · have hk2 : ¬ (j : Int) < (no : Int) := by omega
        go_wp2
        go_roundw
        case rel => exact ⟨j + 1, _, by go_num, by go_num, by omega, HM.out, Lib.hid (HH.out.more (by omega))⟩
        case measure => simp [intOf]; omega
    · obtain rfl : j = N := by omega
      have hnx : ¬ ((j : Int) < (n : Int)) ∨ ((j : Int) < (n : Int) ∧ ¬ ((j : Int) < 100)) := by omega
      have HH2 : Hid (Has q ((rows zs j).drop 0) 1000) := Lib.hid (HH.out.more (by omega))
      have hmn : min n 100 = j := by omega
      clear HP HH HRO
      rcases hnx with hnx | ⟨hnx0, hnx⟩
      · obtain rfl : n = j := by omega
        go_wp2
        go_loopw [11] (fun i wr => ∃ (t : Nat) (q : Js), i = .int .i64 (t : Int) ∧ t ≤ n ∧ Mine w g 4 q (fun _ => False) wr ∧ Hid (Has q ((rows zs n).drop t) 1000)) (fun i _ => n - (intOf i).toNat)
        case atStart => exact ⟨0, q, rfl, by omega, HM.out, HH2⟩
        case round =>
          clear HM HH2
          obtain ⟨t, q, rfl, ht, hm, HH⟩ := hrel
          have HM := Lib.hid hm
          clear hm
          have ht0 : (0 : Int) ≤ (t : Int) := by omega
          by_cases htn : t < n
          · have htn2 : (t : Int) < (n : Int) := by omega
            have hth : (t : Int) < 100 := by omega
            obtain ⟨b, off, x, rfl, _, hx, _, _⟩ := HR.out.at_ (k := t) (by omega)
            have hL := Len_m HM.out 2
            rw [HH.out.jobs, List.length_drop, rows_len] at hL
            have HL := Lib.hid hL
            have hP := Pop_m HM.out 2
            have hh := HH.out
            rw [rows_drop zs htn] at hh
            rw [hh.jobs, row_is hx] at hP
            have HP := Lib.hid hP
            have HX := Lib.hid hx
            have HH3 := Lib.hid hh.pop
            have hjt : ((n - t : Nat) : Int) = (n : Int) - (t : Int) := by omega
            rw [hjt] at HL
            clear hL hP hh hx hjt
            go_wp2_with fail
            refine HL.out.mono ?_
            rintro e w3 ⟨rfl, rfl⟩
            clear HL
            go_wp2_with fail
            refine HP.out.mono ?_
            rintro e w4 ⟨v, rfl, ho, hm, _, _⟩
            replace ho : OwnI w4 w3.heap.size 3 v [(t : Int)] := ho
            replace HM := Lib.hid (hm.less (S' := fun _ => False) (fun b hb => hb.elim))
            obtain ⟨A2, n2, c2, rfl⟩ := ho.form
            obtain ⟨rfl, h1c, hcm2, b2, rfl, hb2, hcell2⟩ := own_one ho
            unfold maxLen at hcm2
            clear hm HP ho
            go_upto_region 23 with fail
            refine at_wld ?_
            intro Y hY
            have hf : Five Y w4.heap.size 32 (.int .i64 0) (.int .i64 x) (.int .i64 0) (.int .i64 (t : Int)) (.slice (some ⟨b2, 0, none⟩) 1 c2) := by rw [hY]; exact Five.new w4 _ _ _ _ _ _
            have hb : Below w4.heap.size w4 Y := by rw [hY]; exact (Below.refl _ _).alloc (Nat.le_refl _) _
            replace HM := Lib.hid (HM.out.same hb)
            replace hcell2 := (hb.cell (p := ⟨b2, 0, none⟩) hb2).trans hcell2
            obtain ⟨_, k1, _, k3, k4⟩ := hf.cells
            obtain ⟨bx, ox, x', e1, _, hx', hcell, _⟩ := (nums_keep HR.out HM.out.below).at_ (k := t) (by omega)
            injection e1 with e1
            injection e1 with e1 e2
            subst e1 e2
            obtain rfl : x = x' := by have h := HX.out; rw [hx'] at h; injection h with h; exact h.symm
            clear hf hb hY hx'
            go_quiet (fail)
            replace HM := Lib.hid (HM.out.same (below_draws (Below.refl Y.heap.size Y) nq))
            go_wp2
            go_roundw
            case rel => exact ⟨t + 1, _, by go_num, by omega, HM.out, HH3⟩
            case measure => simp [intOf]; omega
          · obtain rfl : t = n := by omega
            have hh := HH.out
            rw [List.drop_of_length_le (by rw [rows_len]; exact Nat.le_refl _)] at hh
            have hP := Pop_m HM.out 2
            rw [hh.jobs] at hP
            have HP := Lib.hid hP
            clear hh hP HH
            go_wp2_with fail
            refine HP.out.mono ?_
            rintro e w4 ⟨v, rfl, ho, hm, _, _⟩
            replace HM := Lib.hid (hm.less (S' := fun _ => False) (fun b hb => hb.elim))
            obtain ⟨A2, n2, c2, rfl⟩ := ho.form
            clear hm HP ho
            go_upto_region 26 with fail
            refine at_wld ?_
            intro Y hY
            have hb : Below w4.heap.size w4 Y := by rw [hY]; exact (Below.refl _ _).alloc (Nat.le_refl _) _
            replace HM := Lib.hid (HM.out.same hb)
            clear hb hY
            go_wp2
            go_ret
            exact ⟨rfl, HM.out.below⟩

      · obtain rfl : j = 100 := by omega
        go_wp2
        go_loopw [11] (fun i wr => ∃ (t : Nat) (q : Js), i = .int .i64 (t : Int) ∧ t ≤ 100 ∧ Mine w g 4 q (fun _ => False) wr ∧ Hid (Has q ((rows zs 100).drop t) 1000)) (fun i _ => 100 - (intOf i).toNat)
        case atStart => exact ⟨0, q, rfl, by omega, HM.out, HH2⟩
        case round =>
          clear HM HH2
          obtain ⟨t, q, rfl, ht, hm, HH⟩ := hrel
          have HM := Lib.hid hm
          clear hm
          have ht0 : (0 : Int) ≤ (t : Int) := by omega
          by_cases htn : t < 100
          · have htn2 : (t : Int) < (n : Int) := by omega
            have hth : (t : Int) < 100 := by omega
            obtain ⟨b, off, x, rfl, _, hx, _, _⟩ := HR.out.at_ (k := t) (by omega)
            have hL := Len_m HM.out 2
            rw [HH.out.jobs, List.length_drop, rows_len] at hL
            have HL := Lib.hid hL
            have hP := Pop_m HM.out 2
            have hh := HH.out
            rw [rows_drop zs htn] at hh
            rw [hh.jobs, row_is hx] at hP
            have HP := Lib.hid hP
            have HX := Lib.hid hx
            have HH3 := Lib.hid hh.pop
            have hjt : ((100 - t : Nat) : Int) = (100 : Int) - (t : Int) := by omega
            rw [hjt] at HL
            clear hL hP hh hx hjt
            go_wp2_with fail
            refine HL.out.mono ?_
            rintro e w3 ⟨rfl, rfl⟩
            clear HL
            go_wp2_with fail
            refine HP.out.mono ?_
            rintro e w4 ⟨v, rfl, ho, hm, _, _⟩
            replace ho : OwnI w4 w3.heap.size 3 v [(t : Int)] := ho
            replace HM := Lib.hid (hm.less (S' := fun _ => False) (fun b hb => hb.elim))
            obtain ⟨A2, n2, c2, rfl⟩ := ho.form
            obtain ⟨rfl, h1c, hcm2, b2, rfl, hb2, hcell2⟩ := own_one ho
            unfold maxLen at hcm2
            clear hm HP ho
            go_upto_region 23 with fail
            refine at_wld ?_
            intro Y hY
            have hf : Five Y w4.heap.size 32 (.int .i64 0) (.int .i64 x) (.int .i64 0) (.int .i64 (t : Int)) (.slice (some ⟨b2, 0, none⟩) 1 c2) := by rw [hY]; exact Five.new w4 _ _ _ _ _ _
            have hb : Below w4.heap.size w4 Y := by rw [hY]; exact (Below.refl _ _).alloc (Nat.le_refl _) _
            replace HM := Lib.hid (HM.out.same hb)
            replace hcell2 := (hb.cell (p := ⟨b2, 0, none⟩) hb2).trans hcell2
            obtain ⟨_, k1, _, k3, k4⟩ := hf.cells
            obtain ⟨bx, ox, x', e1, _, hx', hcell, _⟩ := (nums_keep HR.out HM.out.below).at_ (k := t) (by omega)
            injection e1 with e1
            injection e1 with e1 e2
            subst e1 e2
            obtain rfl : x = x' := by have h := HX.out; rw [hx'] at h; injection h with h; exact h.symm
            clear hf hb hY hx'
            go_quiet (fail)
            replace HM := Lib.hid (HM.out.same (below_draws (Below.refl Y.heap.size Y) nq))
            go_wp2
            go_roundw
            case rel => exact ⟨t + 1, _, by go_num, by omega, HM.out, HH3⟩
            case measure => simp [intOf]; omega
          · obtain rfl : t = 100 := by omega
            have hh := HH.out
            rw [List.drop_of_length_le (by rw [rows_len]; exact Nat.le_refl _)] at hh
            have hP := Pop_m HM.out 2
            rw [hh.jobs] at hP
            have HP := Lib.hid hP
            clear hh hP HH
            go_wp2_with fail
            refine HP.out.mono ?_
            rintro e w4 ⟨v, rfl, ho, hm, _, _⟩
            replace HM := Lib.hid (hm.less (S' := fun _ => False) (fun b hb => hb.elim))
            obtain ⟨A2, n2, c2, rfl⟩ := ho.form
            clear hm HP ho
            go_upto_region 26 with fail
            refine at_wld ?_
            intro Y hY
            have hb : Below w4.heap.size w4 Y := by rw [hY]; exact (Below.refl _ _).alloc (Nat.le_refl _) _
            replace HM := Lib.hid (HM.out.same hb)
            clear hb hY
            go_wp2
            go_ret
            exact ⟨rfl, HM.out.below⟩

theorem own : ownKnob Try.prog.godebug = none := by kernel_rfl
theorem laid : laidOutB Try.prog = true := by kernel_rfl
theorem one64 : Try.prog.cellsOf 3 = 1 := by kernel_rfl

set_option maxRecDepth 100000 in
theorem lifted (os : Os) (started : os.Started) (H : Type) (enc : TypeId × Value → H) :
    ReturnsInHanded {} Try.checked os 5 .any (Rows.queueOrderSpec.pre6 enc Try.prog Try.f5 Rows.queueOrderRow.domain false) (Rows.queueOrderSpec.post enc Try.prog Try.f5 false true false false) := by
  refine returnsInHanded_of_change (C := Try.checked) own started (by kernel_rfl) Try.func5
    (ChangeSpec.witness6 (enc := enc) (C := Try.checked) false ⟨#[], #[.slice none 0 0, .slice none 0 0], []⟩ 8 (by kernel_rfl) (by kernel_rfl) (by kernel_rfl) (by kernel_rfl)) ?_
  intro W base args ds gs before hval0 hW _ _
  have hval : ∀ (j : Nat) t v, Try.f5.params[j]? = some t → args[j]? = some v → Value.okWide Try.prog W .any base t v := hval0
  have hW' := hW
  obtain ⟨p, q, hA0, hV, rfl, hfz, hnd⟩ := hW
  have hA : DataW.TrodAll enc Try.prog W 0 (fun _ => true) true Try.f5.params.toList args.toList ds p := hA0
  rw [Try.params5] at hA hval
  obtain ⟨v0, v1, d0, d1, p0, p1, rfl, rfl, rfl, h0, h1⟩ := trodAll_two hA
  obtain ⟨A0, n0, c0, zs0, rfl, hnc0, hcm0, hr0⟩ := open_nums Try.underlying30 Try.underlying3 one64 (hval 0 30 v0 rfl rfl) h0
  obtain ⟨A1, n1, c1, rfl, hnc1, hcm1, hr1⟩ := QueueOps.open_ops (hval 1 38 v1 rfl rfl) h1
  refine (walk A0 n0 c0 zs0 A1 n1 c1 W hnc0 hcm0 hr0 hnc1 hcm1 hr1).mono fun e W' ⟨he, hb⟩ => ?_
  subst he
  exact ⟨_, rfl, Law.post laid (by kernel_rfl) (by kernel_rfl) Try.underlying4 rfl hW' rfl hb⟩

theorem proved : Rows.QueueOrderSaid :=
  OpenClaim.holds_of_wide 5 Try.f5 rfl rfl rfl rfl rfl rfl rfl ⟨rfl, rfl, rfl, rfl, rfl⟩ rfl rfl rfl rfl rfl (by kernel_rfl) Try.func5 (by kernel_rfl)
    (of_decide_eq_true (by kernel_rfl)) (by unfold Func.isWrapper; first | (rw [if_pos (by decide +kernel)]; kernel_rfl) | (rw [if_neg (by decide +kernel)]; exact ⟨rfl, rfl⟩))
    (fun os started H enc _ => lifted os started H enc)

end Go.Proofs.Ytkpneckgpolaoaa.queueOrder
