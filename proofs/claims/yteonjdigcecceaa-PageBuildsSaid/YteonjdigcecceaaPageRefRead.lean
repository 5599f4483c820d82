/-
  The document's own answer for layer 15: Read.
-/
import Derived.Test.YteonjdigcecceaaPageRead
import Derived.Test.YteonjdigcecceaaPageRefMem
namespace Go.Proofs.Yteonjdigcecceaa.PageRef
open Go.RowKit Go.ChangeShapes Go.WideShapes Page PagePkg
set_option maxRecDepth 4000

set_option maxHeartbeats 4000000 in
theorem rRead_any (A A2 : Option Addr) (n c m c2 : Nat) (D O : List (List UInt8)) (w : World) (h1 : Bys w w.heap.size A n D) (h2 : Bys w w.heap.size A2 m O) (hn : n ≤ 1000000) :
    Calls Try.prog 19 #[.slice A n c, .slice A2 m c2] w fun e w' => PagePkg.Told w w' (all D O) e := by
  have H1 := Lib.hid h1
  have H2 := Lib.hid h2
  obtain ⟨q, hq⟩ : ∃ q : Nat, q = min n m := ⟨_, rfl⟩
  have hqn : q ≤ n := by omega
  have hqm : q ≤ m := by omega
  have HALL := Lib.hid (show all D O = read D O q by unfold all; rw [h1.len, h2.len, hq])
  have HQ := Lib.hid hq
  clear hq h1 h2
  rw [HALL.out]
  have HH0 := Lib.hid (hold_nil w w.heap.size 46 5)
  go_enter Try.func19, Try.ntmps19
  go_wp2
  go_loopw [5, 6] (fun v i wr => ∃ (j : Nat) (rs : List Rd), i = .int .i64 (j : Int) ∧ j ≤ q ∧ Hold wr w.heap.size 46 5 v rs ∧ rs.map Rd.key = (read D O j).map Fnd.key ∧ Below w.heap.size w wr) (fun _ i _ => q - (intOf i).toNat)
  case atStart => exact ⟨0, [], rfl, by omega, HH0.out, rfl, Below.refl _ _⟩
  case round =>
    obtain ⟨j, rs, rfl, hj, hh, hkey, hbw⟩ := hrel
    obtain ⟨t, ht⟩ : ∃ t, rs.length = t := ⟨_, rfl⟩
    have htj : t ≤ j := by have := fkey_len hkey; have h2 := read_len D O j; omega
    obtain ⟨A1, c1, hv, _⟩ := hh.form
    rw [ht] at hv
    subst hv
    have HH := Lib.hid hh
    have HKEY := Lib.hid hkey
    have HBW := Lib.hid hbw
    have HT := Lib.hid ht
    clear hh hkey ht
    by_cases hjq : j < q
    · have hjq2 : (j : Int) < (q : Int) := by omega
      have hj0 : (0 : Int) ≤ (j : Int) := by omega
      have hjn2 : (j : Int) < (n : Int) := by omega
      have hjm2 : (j : Int) < (m : Int) := by omega
      obtain ⟨d, hd⟩ : ∃ d, D[j]? = some d := ⟨_, List.getElem?_eq_getElem (by rw [H1.out.len]; omega)⟩
      obtain ⟨o, ho⟩ : ∃ o, O[j]? = some o := ⟨_, List.getElem?_eq_getElem (by rw [H2.out.len]; omega)⟩
      obtain ⟨b1, off1, Ad, cd, e1, hb1, k1, hdc, hdm, hbd⟩ := (H1.out.keep hbw).at_ j d hd
      obtain ⟨b2, off2, Ao, co, e2, hb2, k2, hoc, _, hbo⟩ := (H2.out.keep hbw).at_ j o ho
      subst e1 e2
      have hrs := read_succ hd ho
      have HRS := Lib.hid hrs
      have hun := fun X (hX : Below wr.heap.size wr X) => OobPkg.rUnpack_any Ao Ad o.length co d.length cd o d X hoc (bytes_more (bytes_keep hbo (hX.mono hbw.size)) (Nat.le_trans hbw.size hX.size)) (bytes_more (bytes_keep hbd (hX.mono hbw.size)) (Nat.le_trans hbw.size hX.size))
      have HBD := Lib.hid hbd
      have htell : tell j d o = if (Oob.unp o d).2.2.2 = 0 ∧ (Oob.unp o d).1 ≠ 3 then [⟨j, (Oob.unp o d).1, (Oob.unp o d).2.1, (Oob.unp o d).2.2.1, d⟩] else [] := rfl
      have hz0 : (Oob.unp o d).2.2.2 = 0 → d.length = 16 := fun h => by
        rcases hu : Oob.unp o d with ⟨k, l, s, z⟩
        rw [hu] at h
        exact (unp_len (by rw [hu, show z = 0 from h])).1
      generalize Oob.unp o d = u at hun htell hz0
      obtain ⟨k, l, s, z⟩ := u
      dsimp only at hun htell hz0
      have HUN := Lib.hid hun
      have HTELL := Lib.hid htell
      have HZ0 := Lib.hid hz0
      clear hun htell hz0 hrs hbd hbo hd ho hbw hoc
      generalize d.length = nd at *
      generalize o.length = no at *
      go_upto_region 5 with fail
      go_cut [7, 8] (fun p e wx => ∃ g, p = .pointer (some ⟨g, 0, none⟩) ∧ e = .int .i64 z ∧ OobPkg.Three 44 wx g k l s ∧ wr.heap.size ≤ g ∧ Below wr.heap.size wr wx)
      case first =>
        have HKP := Lib.hid (fun (X : World) (hX : Below wr.heap.size wr X) => show X.cell? ⟨b2, off2 + j, none⟩ = some (.slice Ao no co) ∧ X.cell? ⟨b1, off1 + j, none⟩ = some (.slice Ad nd cd) from ⟨(hX.cell (p := ⟨b2, off2 + j, none⟩) (Nat.lt_of_lt_of_le hb2 HBW.out.size)).trans k2, (hX.cell (p := ⟨b1, off1 + j, none⟩) (Nat.lt_of_lt_of_le hb1 HBW.out.size)).trans k1⟩)
        go_region_held3 (fun w' => w'.cell? ⟨b2, off2 + j, none⟩ = some (.slice Ao no co) ∧ w'.cell? ⟨b1, off1 + j, none⟩ = some (.slice Ad nd cd))
          (first | exact ⟨k2, k1⟩ | exact HKP.out _ ((Below.refl _ _).alloc (Nat.le_refl _) _).drew | exact HKP.out _ HB4.out | exact HKP.out _ (HB4.out.alloc HB4.out.size _) | exact HKP.out _ (set_three HB4.out (Nat.le_refl _) _ _ _))
          (first
            | (go_at_call 33; refine (HUN.out _ (by exact (Below.refl _ _).drew)).mono ?_; rintro e w4 ⟨rfl, hb4⟩; have HB4 : Hid (Below wr.heap.size wr w4) := Lib.hid (below_on (Below.refl _ _).drew hb4 (Nat.le_refl _)))
            | (go_at_call 33; refine (HUN.out _ (by exact ((Below.refl _ _).alloc (Nat.le_refl _) _).drew)).mono ?_; rintro e w4 ⟨rfl, hb4⟩
               have HB4 : Hid (Below wr.heap.size wr w4) := Lib.hid (below_on (((Below.refl _ _).alloc (Nat.le_refl _) _).drew) hb4 (by simp))
               have HT4 : Hid (OobPkg.Three 44 w4 wr.heap.size 0 0 0) := Lib.hid ((hb4.block wr.heap.size (by simp)).trans (heap_alloc_new wr _))
               obtain ⟨q0, q1, q2, q3, q4, q5⟩ := three_cells HT4.out))
        all_goals
          go_wp2_with fail
          go_meet
          first
            | exact ⟨wr.heap.size, rfl, rfl, three_set HT4.out k l s, Nat.le_refl _, set_three HB4.out (Nat.le_refl _) _ _ _⟩
            | exact ⟨w4.heap.size, rfl, rfl, OobPkg.Three.new _ w4 k l s, HB4.out.size, HB4.out.alloc HB4.out.size _⟩
      case rest =>
        obtain ⟨g, rfl, rfl, h3, hg, hb⟩ := hcut
        have hhc := HH.out.below hb
        obtain ⟨g0, g1, g2, _, _, _⟩ := three_cells h3
        have HHC := Lib.hid hhc
        have H3 := Lib.hid h3
        have HBC := Lib.hid hb
        have HBW2 := Lib.hid (HBW.out.trans (hb.mono HBW.out.size))
        have kd : wc.cell? ⟨b1, off1 + j, none⟩ = some (.slice Ad nd cd) := (hb.cell (p := ⟨b1, off1 + j, none⟩) (Nat.lt_of_lt_of_le hb1 HBW.out.size)).trans k1
        have hbdc : Bytes wc w.heap.size Ad nd d := bytes_keep HBD.out (hb.mono HBW.out.size)
        have hwc : w.heap.size ≤ wc.heap.size := HBW2.out.size
        have HDL := Lib.hid hbdc.1
        have HBDC := Lib.hid hbdc
        clear hhc h3 hb hbdc HUN k1 k2 HH HBD
        by_cases hz : z = 0
        · by_cases hk : k = 3
          · have hr : read D O (j + 1) = read D O j := by rw [HRS.out, HTELL.out, if_neg (fun h => h.2 hk), List.append_nil]
            have HEND := Lib.hid (show Hold wc w.heap.size 46 5 (.slice A1 t c1) rs ∧ rs.map Rd.key = (read D O (j + 1)).map Fnd.key ∧ Below w.heap.size w wc by rw [hr]; exact ⟨HHC.out, HKEY.out, HBW2.out⟩)
            subst hz hk
            clear hr HTELL HZ0 HRS
            go_wp2
            go_roundw
            case measure => simp [intOf]; omega
            case rel => exact ⟨j + 1, _, by go_num, by omega, HEND.out⟩
          · have hr : read D O (j + 1) = read D O j ++ [⟨j, k, l, s, d⟩] := by rw [HRS.out, HTELL.out, if_pos ⟨hz, hk⟩]
            have HR := Lib.hid hr
            have h16 : nd = 16 := HZ0.out hz
            subst hz
            subst h16
            have HLE : Hid (([] : List UInt8).length + 16 ≤ 140737488355328) := Lib.hid (by decide)
            have HBA := Lib.hid (bytes_keep HBDC.out (((Below.refl wc.heap.size wc).alloc (Nat.le_refl _) (.cells #[] 5)).drew.mono hwc))
            have HKA := Lib.hid ((Below.refl wc.heap.size wc).alloc (Nat.le_refl _) (.cells #[] 5)).drew
            clear hr HTELL HZ0 HRS
            go_upto_region 7 with fail
            have S0 := And.intro g0 (And.intro g1 (And.intro g2 kd))
            have hb1c := Nat.lt_of_lt_of_le hb1 hwc
            have S1 := four_keep HKA.out H3.out.lt hb1c S0
            go_region_held3 (fun w' => w'.cell? ⟨g, 0, none⟩ = some (.int .i64 k) ∧ w'.cell? ⟨g, 1, none⟩ = some (.int .i64 l) ∧ w'.cell? ⟨g, 2, none⟩ = some (.int .i64 s) ∧ w'.cell? ⟨b1, off1 + j, none⟩ = some (.slice Ad 16 cd))
              (first | exact S0 | exact S1 | exact S4 | exact S5 | exact S6)
              (first
                | (refine step_append_bytes _ (o := ⟨some 48, _, _, _, _, _⟩) (by rfl) _ _ _ (by rfl) wc.heap.size 5 Try.underlying40 info8 (.slice (some ⟨wc.heap.size, 0, none⟩) 0 0) [] (by rfl) (by exact own_new wc _ [] _ rfl (Nat.zero_le _)) w.heap.size Ad 16 cd d (by rfl) (by exact HBA.out) HLE.out (by exact HKA.out.size) ?_
                   intro v4 w4 ho4 hg4 _
                   have HB4 : Hid (Below wc.heap.size wc w4) := Lib.hid (HKA.out.grown hg4 HKA.out.size (fun k hk => by simp [Value.ownBlock] at hk; omega))
                   have S4 := four_keep HB4.out H3.out.lt hb1c S0
                   have ho4' : Own w4 wc.heap.size 5 v4 d := ho4
                   obtain ⟨A4, c4, e4, hc4, hl4⟩ := lie_own ho4' (v := .slice A1 t c1) (fun k hk => HHC.out.rows.lt k hk)
                   rw [HDL.out] at e4
                   subst e4
                   have S5 := four_keep (HB4.out.alloc HB4.out.size (.cells #[.int .i64 (j : Int), .int .i64 k, .int .i64 l, .int .i64 s, .slice A4 16 c4] 46)) H3.out.lt hb1c S0
                   obtain ⟨A6, c6, w6, hrun, hh6, hb6, hs6, hk6⟩ := hold_append (P := Try.prog) (ty := 38) w4 (by omega) Try.underlying38 infoF (HHC.out.below HB4.out) ⟨[(j : Int), k, l, s], A4, c4, d⟩ rfl (by rw [HT.out]; omega) (Nat.le_trans hwc HB4.out.size) hc4 hl4
                   rw [HT.out] at hrun hh6
                   have hrun2 : (Builtin.append_ #[38, 38] 38 #[.slice A1 t c1, .slice (some ⟨w4.heap.size, 0, none⟩) 1 1]).run Try.prog (w4.alloc (.cells #[.int .i64 (j : Int), .int .i64 k, .int .i64 l, .int .i64 s, .slice A4 16 c4] 46)) = .ok (.slice A6 (t + 1) c6) w6 := by
                     have e : (Rd.mk [(j : Int), k, l, s] A4 c4 d).cells.toArray = #[.int .i64 (j : Int), .int .i64 k, .int .i64 l, .int .i64 s, .slice A4 16 c4] := by show #[Value.int .i64 (j : Int), .int .i64 k, .int .i64 l, .int .i64 s, .slice A4 d.length c4] = _; rw [HDL.out]
                     rw [e] at hrun
                     exact hrun
                   have S6 := four_at (w' := w6) ((hk6 g (Nat.lt_of_lt_of_le H3.out.lt HB4.out.size) (HHC.out.ne H3.out (by decide))).trans (HB4.out.block g H3.out.lt)) ((hk6 b1 (Nat.lt_of_lt_of_le hb1c HB4.out.size) (fun e => by have := HHC.out.rows.block b1 e; omega)).trans (HB4.out.block b1 hb1c)) S0)
                | (refine step_append_run (by rfl) _ _ _ (by rfl) (.slice A1 t c1) (.slice (some ⟨w4.heap.size, 0, none⟩) 1 1) _ (by rfl) (by rfl) (fun _ => hrun2) ?_))
            have HEND := Lib.hid (show Hold w6 w.heap.size 46 5 (.slice A6 (t + 1) c6) (rs ++ [⟨[(j : Int), k, l, s], A4, c4, d⟩]) ∧ (rs ++ [Rd.mk [(j : Int), k, l, s] A4 c4 d]).map Rd.key = (read D O (j + 1)).map Fnd.key ∧ Below w.heap.size w w6 by
              refine ⟨hh6, ?_, (HBW2.out.trans (HB4.out.mono hwc)).trans hb6⟩
              rw [HR.out, List.map_append, List.map_append, HKEY.out]
              rfl)
            clear hh6 hb6 hs6 hk6 hrun hrun2 hg4 hl4 ho4 ho4' S0 S1 S4 S5 S6
            go_wp2
            go_roundw
            case measure => simp [intOf]; omega
            case rel => exact ⟨j + 1, _, by go_num, by omega, HEND.out⟩
        · have hr : read D O (j + 1) = read D O j := by rw [HRS.out, HTELL.out, if_neg (fun h => hz h.1), List.append_nil]
          have HEND := Lib.hid (show Hold wc w.heap.size 46 5 (.slice A1 t c1) rs ∧ rs.map Rd.key = (read D O (j + 1)).map Fnd.key ∧ Below w.heap.size w wc by rw [hr]; exact ⟨HHC.out, HKEY.out, HBW2.out⟩)
          have hz2 : (z == 0) = false := by simpa using hz
          clear hr HTELL HZ0 HRS hz
          go_wp2
          go_roundw
          case measure => simp [intOf]; omega
          case rel => exact ⟨j + 1, _, by go_num, by omega, HEND.out⟩
    · have hjq' : j = q := by omega
      have HEND := Lib.hid (show PagePkg.Told w wr (read D O q) (.returned (.slice A1 t c1)) from ⟨_, rs, rfl, HH.out, by rw [← hjq']; exact HKEY.out, HBW.out⟩)
      by_cases hjn : j < n
      · have hjn2 : (j : Int) < (n : Int) := by omega
        have hjm2 : ¬ (j : Int) < (m : Int) := by have := HQ.out; omega
        go_wp2
        go_ret
        exact HEND.out
      · have hjn2 : ¬ (j : Int) < (n : Int) := by omega
        go_wp2
        go_ret
        exact HEND.out


end Go.Proofs.Yteonjdigcecceaa.PageRef
