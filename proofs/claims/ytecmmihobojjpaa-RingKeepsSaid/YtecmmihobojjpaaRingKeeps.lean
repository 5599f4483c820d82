/-
  RingKeeps holds: what was put is got as it was, till it is gone; the tail never falls, and all ahead of it was done; for every size and all ops. No condition.
-/
import Derived.Test.YtecmmihobojjpaaRingKept
import Derived.Test.YtecmmihobojjpaaRingOps
import Derived.Test.YtecmmihobojjpaaRingSame
import Derived.Test.YtecmmihobojjpaaRingDoes
import Derived.Test.YtecmmihobojjpaaLawKit
import Derived.OpenShut
import Derived.Deep.DeepCutAuto
import Derived.Deep.CutBlock
import Derived.Deep.RegionHeld3
namespace Go.Proofs.Ytecmmihobojjpaa.ringKeeps
open Go.RowKit Go.ChangeShapes Go.WideShapes Ring RingPkg RingLaw
open RingRef (scells)
set_option maxRecDepth 4000

/-- Behind an op. -/
def Mid (a : World) (gd : Nat) (size : Int) (T J : Nat) (pv dv : Value) (w : World) : Prop := ∃ (al : All) (ds : List Int), Kq a gd size al pv (al.map (·.1)) dv ds [] w ∧ T ≤ tl al ∧ al.length ≤ J + 1 ∧ ds.length ≤ J + 1 ∧ Kept al ds

abbrev Ten (w : World) (b1 b2 o : Nat) (x0 x1 x2 x3 x4 y0 y1 y2 y3 y4 : Value) : Prop := w.cell? ⟨b1, 0, none⟩ = some x0 ∧ w.cell? ⟨b1, 1, none⟩ = some x1 ∧ w.cell? ⟨b1, 2, none⟩ = some x2 ∧ w.cell? ⟨b1, 3, none⟩ = some x3 ∧ w.cell? ⟨b1, 4, none⟩ = some x4 ∧ w.cell? ⟨b2, o, none⟩ = some y0 ∧ w.cell? ⟨b2, o + 1, none⟩ = some y1 ∧ w.cell? ⟨b2, o + 2, none⟩ = some y2 ∧ w.cell? ⟨b2, o + 3, none⟩ = some y3 ∧ w.cell? ⟨b2, o + 4, none⟩ = some y4

theorem cell_stays {w w' : World} {p : Addr} {v : Value} (hb : Below w.heap.size w w') (h : w.cell? p = some v) : w'.cell? p = some v := (World.cell?_of_block (w := w) (hb.block p.block (World.block_lt_of_cell? _ _ h))).trans h

theorem ten_keep {w w' : World} {b1 b2 o : Nat} {x0 x1 x2 x3 x4 y0 y1 y2 y3 y4 : Value} (h : Ten w b1 b2 o x0 x1 x2 x3 x4 y0 y1 y2 y3 y4) (hb : Below w.heap.size w w') : Ten w' b1 b2 o x0 x1 x2 x3 x4 y0 y1 y2 y3 y4 := by
  obtain ⟨h0, h1, h2, h3, h4, h5, h6, h7, h8, h9⟩ := h
  exact ⟨cell_stays hb h0, cell_stays hb h1, cell_stays hb h2, cell_stays hb h3, cell_stays hb h4, cell_stays hb h5, cell_stays hb h6, cell_stays hb h7, cell_stays hb h8, cell_stays hb h9⟩

set_option maxHeartbeats 8000000 in
theorem walk (size : Int) (A : Option Addr) (n c : Nat) (w : World) (_hz0 : -9223372036854775808 ≤ size) (_hz1 : size ≤ 9223372036854775807) (hnc : n ≤ c) (hcm : c ≤ maxLen) (hops : RingOps.Ops w w.heap.size A n) :
    Calls Try.prog 5 #[.int .i64 size, .slice A n c] w fun e w' => e = .returned (.bool true) ∧ Below w.heap.size w w' := by
  have HOPS := Lib.hid hops
  have hn : n ≤ 9223372036854775807 := Nat.le_trans hnc hcm
  have hcc : c ≤ 9223372036854775807 := hcm
  clear hops hcm _hz0 _hz1
  by_cases hin : 1 ≤ size ∧ size ≤ 256
  rotate_left
  · have H1 := Lib.hid (fun w => New_out size w hin)
    have hout : size < 1 ∨ (¬ size < 1 ∧ 256 < size) := by omega
    clear hin
    rcases hout with h1 | ⟨h1, h2⟩
    all_goals
      go_enter Try.func5, Try.ntmps5
      go_wp2_with fail
      refine (awake_any _).mono ?_
      rintro e w1 ⟨rfl, hb⟩
      have HB := Lib.hid hb
      clear hb
      go_wp2_with fail
      refine (H1.out _).mono ?_
      rintro e w2 ⟨rfl, hw⟩
      subst w2
      go_wp2
      go_ret
      exact ⟨rfl, HB.out⟩
  obtain ⟨hs1, hs2⟩ := hin
  go_enter Try.func5, Try.ntmps5
  go_wp2_with fail
  refine (awake_any _).mono ?_
  rintro e w1 ⟨rfl, hb⟩
  have HB := Lib.hid hb
  clear hb
  go_wp2_with fail
  refine (New_m w w1 HB.out size hs1 hs2).mono ?_
  rintro e w2 ⟨gd, rfl, h⟩
  have HM := Lib.hid h
  clear h HB
  go_wp2
  go_loopw [8, 9, 10, 11] (fun p d t i wr => ∃ (j : Nat) (al : All) (ds : List Int), j ≤ n ∧ j ≤ 200 ∧ i = .int .i64 j ∧ t = .int .i64 (tl al : Nat) ∧ Kq w gd size al p (al.map (·.1)) d ds [] wr ∧ al.length ≤ j ∧ ds.length ≤ j ∧ Kept al ds) (fun _ _ _ i _ => n - (intOf i).toNat)
  case atStart => exact ⟨0, [], [], by omega, by omega, rfl, rfl, Kq.of_mine HM.out, by simp, by simp, fun k x hx => by simp at hx⟩
  case round =>
    obtain ⟨j, al, ds, hj, hj2, rfl, rfl, h, hal, hds, htold⟩ := hrel
    have H := Lib.hid h
    have HT := Lib.hid htold
    clear h htold HM
    by_cases hgo : j < n ∧ j < 200
    rotate_left
    · have hstop : decide (j < n) = false ∨ (decide (j < n) = true ∧ decide ((j : Int) < 200) = false) := by
        by_cases h : j < n
        · exact .inr ⟨by simpa using h, by have : ¬ j < 200 := fun h2 => hgo ⟨h, h2⟩; simp; omega⟩
        · exact .inl (by simpa using h)
      clear hgo
      rcases hstop with h1 | ⟨h1, h2⟩
      all_goals
        go_wp2
        go_ret
        exact ⟨rfl, H.out.below⟩
    obtain ⟨hlt1, hlt2⟩ := hgo
    obtain ⟨b8, o8, x0, x1, last, k, l, s, f, xs, Ap, np, cp, rfl, hop⟩ := HOPS.out j hlt1
    have HD0 := Lib.hid hop.data
    obtain ⟨q0, q1, q2, q3, q4, q5, q6, q7, _, hnp, htop, hdat⟩ := hop.keep H.out.below
    have HDT := Lib.hid hdat
    have hnp2 : np ≤ 9223372036854775807 := Nat.le_trans hnp htop
    clear hop hdat htop
    have HBOX := Lib.hid (H.out.new #[.int .i64 x0, .int .i64 x1, .bool last, .int .i64 k, .int .i64 l, .int .i64 s, .slice Ap np cp, .int .i64 f] 37)
    by_cases hbig : 1000 < np
    · go_wp2
      go_ret
      exact ⟨rfl, HBOX.out.below⟩
    obtain ⟨AP, CP, rfl, hpc1, hpc2⟩ := H.out.pform
    obtain ⟨AD, CD, rfl⟩ := H.out.dform
    obtain ⟨m, hm⟩ : ∃ m, m = al.length := ⟨_, rfl⟩
    obtain ⟨T, hT⟩ : ∃ T, T = tl al := ⟨_, rfl⟩
    obtain ⟨q, hq⟩ : ∃ q, q = ds.length := ⟨_, rfl⟩
    rw [List.length_map, ← hm] at hpc1 H HBOX ⊢
    rw [← hq] at H HBOX hds ⊢
    rw [← hm] at hal
    rw [← hT]
    have HM := Lib.hid hm
    have HTL := Lib.hid hT
    have HQ := Lib.hid hq
    have HDT2 : Hid (∀ W, Below wr.heap.size wr W → Bytes W W.heap.size Ap np xs) := Lib.hid (fun W hb => bytes_more (bytes_keep HDT.out (hb.mono (H.out.below.size))) (Nat.le_trans H.out.below.size hb.size))
    have HWB := Lib.hid ((Below.refl wr.heap.size wr).alloc (Nat.le_refl _) (.cells #[.int .i64 x0, .int .i64 x1, .bool last, .int .i64 k, .int .i64 l, .int .i64 s, .slice Ap np cp, .int .i64 f] 37))
    have hpc63 : CP ≤ 9223372036854775807 := hpc2
    have HDB : Hid (∀ W, Below w.heap.size w W → Bytes W w.heap.size Ap np xs) := Lib.hid (fun W hb => bytes_keep HD0.out hb)
    have HXL : Hid (xs.length ≤ 100000000000000) := Lib.hid (by rw [HD0.out.1]; omega)
    clear hm hT hq hpc2 HDT H HD0
    go_upto_block 2 with fail
    go_cut [8, 9, 13, 14, 15, 65, 87, 93, 106] (fun p d _ _ _ _ _ _ _ wx => Mid w gd size T j p d wx)
    case first =>
      clear q0 q1 q2 q3 q4 q5 q6 q7
      obtain ⟨c0, c1, c2, c3, c4, c5, c6, c7⟩ := eight_cells (HBOX.out.at (.head _))
      by_cases hx : x0 = 0 ∨ x0 = 1
      · by_cases hf : size - (al.length : Int) + tl al = 0
        · have HP := Lib.hid (Put_full_k HBOX.out (by rw [← HM.out]; omega) (by omega) (by omega) hf ⟨k, l, s, xs, f⟩ (.slice Ap np cp) ⟨_, _, _, rfl⟩)
          clear hf
          rcases hx with rfl | rfl
          all_goals
            go_wp2_with fail
            refine HP.out.mono ?_
            rintro e w3 ⟨rfl, h⟩
            have HE : Hid (Mid w gd size T j _ _ w3) := Lib.hid ⟨_, _, h.drop, by rw [HTL.out]; exact Nat.le_refl _, by rw [← HM.out]; omega, by rw [← HQ.out]; omega, HT.out⟩
            clear h HP c0 c1 c2 c3 c4 c5 c6 c7
            go_wp2_with fail
            go_meet
            exact HE.out
        · have HP := Lib.hid (Put_k HBOX.out (by rw [← HM.out]; omega) (by omega) (by omega) hf ⟨k, l, s, xs, f⟩ Ap np cp (by omega) (HDT2.out _ HWB.out))
          rw [← HM.out] at HP
          clear hf
          rcases hx with rfl | rfl
          all_goals
            go_wp2_with fail
            refine HP.out.mono ?_
            rintro e w3 ⟨rfl, h⟩
            clear c0 c1 c2 c3 c4 c5 c6 c7
            obtain ⟨c0, c1, c2, c3, c4, c5, c6, c7⟩ := eight_cells (h.at (.head _))
            have HC := Lib.hid (RingRef.Copy_any ⟨k, l, s, xs, f⟩ Ap np cp w.heap.size w3 (by omega) (HDB.out _ h.below) h.below.size)
            have HK := Lib.hid h
            clear h HP
            go_wp2_with fail
            refine HC.out.mono ?_
            rintro e w4 ⟨v, rfl, ho, hb⟩
            clear HC c0 c1 c2 c3 c4 c5 c6 c7
            obtain ⟨v5, w5, hrun, h5⟩ := HK.out.put ⟨k, l, s, xs, f⟩ v hb ho HXL.out (by rw [List.length_map, ← HM.out]; omega)
            obtain ⟨A5, C5, hv5, _⟩ := h5.pform
            have hl5 : (al.map (·.1) ++ [(⟨k, l, s, xs, f⟩ : Slot)]).length = m + 1 := by rw [List.length_append, List.length_map, ← HM.out]; rfl
            rw [hl5] at hv5
            subst hv5
            have HE : Hid (Mid w gd size T j _ _ w5) := Lib.hid ⟨_, _, by rw [List.map_append]; exact h5.drop, by rw [tl_put, HTL.out]; exact Nat.le_refl _, by rw [List.length_append, ← HM.out]; simp; omega, by rw [← HQ.out]; omega, HT.out.put _⟩
            clear h5 hb hl5
            obtain ⟨Av, cv, rfl, _⟩ := Lie.of_own ho
            clear ho
            go_wp2_with (at_builtin; refine RingRef.wpList_append_run rfl _ _ _ rfl (.slice AP m CP) (.slice (some ⟨w4.heap.size, 0, none⟩) 1 1) _ rfl rfl (fun _ => hrun) ?_)
            clear hrun
            go_wp2_with fail
            go_meet
            exact HE.out
      by_cases hx2 : x0 = 2
      · have HP := Lib.hid (Take_k HBOX.out (by rw [← HM.out]; omega) x1)
        subst hx2
        clear hx
        go_wp2_with fail
        refine HP.out.mono ?_
        rintro e w3 ⟨⟨u, rfl⟩, h⟩
        have HE : Hid (Mid w gd size T j _ _ w3) := Lib.hid ⟨_, _, by rw [slots_mark]; exact h.drop, by rw [tl_take, HTL.out]; exact Nat.le_refl _, by rw [mark_len, ← HM.out]; omega, by rw [← HQ.out]; omega, HT.out.take _⟩
        clear h HP c0 c1 c2 c3 c4 c5 c6 c7
        go_wp2_with fail
        go_meet
        exact HE.out
      by_cases hx3 : x0 = 3
      · have HP := Lib.hid (Done_k HBOX.out (by rw [← HM.out]; omega) x1)
        subst hx3
        clear hx hx2
        go_wp2_with fail
        refine HP.out.mono ?_
        rintro e w3 ⟨z, al3, rfl, h, hz⟩
        clear HP c0 c1 c2 c3 c4 c5 c6 c7
        rcases hz with ⟨hz, rfl⟩ | ⟨rfl, i, rfl, rfl⟩
        · have HE : Hid (Mid w gd size T j _ _ w3) := Lib.hid ⟨_, _, h.drop, by rw [HTL.out]; exact Nat.le_refl _, by rw [← HM.out]; omega, by rw [← HQ.out]; omega, HT.out⟩
          clear h
          go_wp2_with fail
          go_meet
          exact HE.out
        · have HK := Lib.hid h
          obtain ⟨c0, c1, c2, c3, c4, c5, c6, c7⟩ := eight_cells (h.at (.head _))
          obtain ⟨v4, w4, hrun, h4⟩ := h.did (i : Int) (by rw [← HQ.out]; omega)
          obtain ⟨AD4, CD4, rfl⟩ := h4.dform
          have hl4 : (ds ++ [(i : Int)]).length = q + 1 := by rw [List.length_append, ← HQ.out]; rfl
          rw [hl4] at hrun h4
          have HE : Hid (Mid w gd size T j _ _ w4) := Lib.hid ⟨_, _, by rw [slots_modify]; exact h4.drop, by rw [HTL.out]; exact tl_did al i, by rw [List.length_modify, ← HM.out]; omega, by rw [hl4]; omega, HT.out.did i⟩
          clear h h4 hl4
          go_wp2_with (at_builtin; refine RingRef.wpList_append_run rfl _ _ _ rfl (.slice AD q CD) (.slice (some ⟨w3.heap.size, 0, none⟩) 1 1) _ rfl rfl (fun _ => hrun) ?_)
          clear hrun c0 c1 c2 c3 c4 c5 c6 c7
          go_wp2_with fail
          go_meet
          exact HE.out
      by_cases hx4 : x0 = 4
      · have HP := Lib.hid (Back_k HBOX.out (by rw [← HM.out]; omega) x1)
        subst hx4
        clear hx hx2 hx3
        go_wp2_with fail
        refine HP.out.mono ?_
        rintro e w3 ⟨z, al3, rfl, h, hz⟩
        have HE : Hid (Mid w gd size T j _ _ w3) := Lib.hid (by
          rcases hz with rfl | ⟨i, hi, rfl⟩
          · exact ⟨_, _, h.drop, by rw [HTL.out]; exact Nat.le_refl _, by rw [← HM.out]; omega, by rw [← HQ.out]; omega, HT.out⟩
          · exact ⟨_, _, by rw [slots_modify]; exact h.drop, by rw [HTL.out, tl_back al i hi]; exact Nat.le_refl _, by rw [List.length_modify, ← HM.out]; omega, by rw [← HQ.out]; omega, HT.out.back i⟩)
        clear h hz HP c0 c1 c2 c3 c4 c5 c6 c7
        go_wp2_with fail
        go_meet
        exact HE.out
      · have b0 : (x0 == 0) = false := by simp; omega
        have b1 : (x0 == 1) = false := by simp; omega
        have b2 : (x0 == 2) = false := by simp; omega
        have b3 : (x0 == 3) = false := by simp; omega
        have b4 : (x0 == 4) = false := by simp; omega
        have HE : Hid (Mid w gd size T j _ _ _) := Lib.hid ⟨_, _, HBOX.out.drop, by rw [HTL.out]; exact Nat.le_refl _, by rw [← HM.out]; omega, by rw [← HQ.out]; omega, HT.out⟩
        clear hx hx2 hx3 hx4 c1 c2 c3 c4 c5 c6 c7
        go_wp2_with fail
        go_meet
        exact HE.out
    case rest =>
      obtain ⟨al', ds', h, hTT, hl', hd', hk'⟩ := hcut
      clear q0 q1 q2 q3 q4 q5 q6 q7 HBOX HWB HDT2 HDB HXL
      obtain ⟨AP', CP', hp', hpc1', hpc2'⟩ := h.pform
      obtain ⟨AD', CD', hd2'⟩ := h.dform
      obtain ⟨m', hm'⟩ : ∃ m, m = al'.length := ⟨_, rfl⟩
      obtain ⟨T', hT'⟩ : ∃ T, T = tl al' := ⟨_, rfl⟩
      obtain ⟨q', hq'⟩ : ∃ q, q = ds'.length := ⟨_, rfl⟩
      rw [List.length_map, ← hm'] at hp' hpc1'
      rw [← hq'] at hd2' hd'
      rw [← hm'] at hl'
      rw [← hT'] at hTT
      subst hp' hd2'
      have htm : T' ≤ m' := by rw [hT', hm']; exact tl_le al'
      have H := Lib.hid h
      have HK := Lib.hid hk'
      have HM' := Lib.hid hm'
      have HT' := Lib.hid hT'
      have HQ' := Lib.hid hq'
      have hl6 : Hid (al'.length ≤ 1000000) := Lib.hid (by rw [← hm']; omega)
      have HTA := Lib.hid (fun W (h : Kq w gd size al' (.slice AP' m' CP') (al'.map (·.1)) (.slice AD' q' CD') ds' [] W) => Tail_k h)
      have HHE := Lib.hid (fun W (h : Kq w gd size al' (.slice AP' m' CP') (al'.map (·.1)) (.slice AD' q' CD') ds' [] W) => Head_k h hl6.out)
      have HFR := Lib.hid (fun W (h : Kq w gd size al' (.slice AP' m' CP') (al'.map (·.1)) (.slice AD' q' CD') ds' [] W) => Free_k h hl6.out (by omega) (by omega))
      rw [← hT'] at HTA HFR
      rw [← hm'] at HHE HFR
      have hpc63' : CP' ≤ 9223372036854775807 := hpc2'
      clear h hk' hm' hT' hq' hpc2'
      have g1 : decide (T' < T) = false := by simp; omega
      have g2 : decide (m' < T') = false := by simp; omega
      go_wp2_with fail
      refine (HTA.out _ H.out).mono ?_
      rintro e wy ⟨rfl, h⟩
      replace H := Lib.hid h
      clear h
      go_wp2_with fail
      refine (HTA.out _ H.out).mono ?_
      rintro e wy ⟨rfl, h⟩
      replace H := Lib.hid h
      clear h
      go_wp2_with fail
      refine (HHE.out _ H.out).mono ?_
      rintro e wy ⟨rfl, h⟩
      replace H := Lib.hid h
      clear h
      go_wp2_with fail
      refine (HFR.out _ H.out).mono ?_
      rintro e wy ⟨rfl, h⟩
      replace H := Lib.hid h
      clear h
      go_wp2_with fail
      refine (HTA.out _ H.out).mono ?_
      rintro e wy ⟨rfl, h⟩
      replace H := Lib.hid h
      clear h
      clear g1 g2
      go_wp2
      go_loopw [16, 17] (fun i _ wq => ∃ t : Nat, T ≤ t ∧ t ≤ T' ∧ i = .int .i64 t ∧ Kq w gd size al' (.slice AP' m' CP') (al'.map (·.1)) (.slice AD' q' CD') ds' [] wq) (fun i _ _ => T' - (intOf i).toNat)
      case atStart => exact ⟨T, by omega, by omega, rfl, H.out⟩
      case round =>
        obtain ⟨t, ht1, ht2, rfl, h⟩ := hrel
        replace H := Lib.hid h
        clear h
        by_cases hlt : t < T'
        · have hlt' : (t : Int) < T' := by omega
          have HHA := Lib.hid (fun W (h : Kq w gd size al' (.slice AP' m' CP') (al'.map (·.1)) (.slice AD' q' CD') ds' [] W) => has_any AD' q' CD' _ ds' W h.ints (by omega) (t : Int) (HK.out.tail (by rw [← HT'.out]; exact hlt)))
          go_wp2_with fail
          refine (HTA.out _ H.out).mono ?_
          rintro e wy ⟨rfl, h⟩
          replace H := Lib.hid h
          clear h
          go_wp2_with fail
          refine (HHA.out _ H.out).mono ?_
          rintro e wy ⟨rfl, hb⟩
          replace H := Lib.hid (H.out.on hb)
          clear hb
          go_wp2
          go_roundw
          case rel =>
            first
              | exact ⟨t + 1, by omega, by omega, by go_num, H.out⟩
              | ((repeat apply Exists.intro); refine ⟨?_, rfl⟩; exact ⟨t + 1, by omega, by omega, by go_num, H.out⟩)
          case measure => simp [intOf]; omega
        · obtain rfl : t = T' := by omega
          go_wp2_with fail
          refine (HTA.out _ H.out).mono ?_
          rintro e wy ⟨rfl, h⟩
          replace H := Lib.hid h
          clear h
          go_wp2_with fail
          refine (HTA.out _ H.out).mono ?_
          rintro e wy ⟨rfl, h⟩
          replace H := Lib.hid h
          clear h
          go_wp2
          go_loopw [18, 19, 20, 21] (fun i _ _ _ wq => ∃ u : Nat, t ≤ u ∧ u ≤ m' ∧ i = .int .i64 u ∧ Kq w gd size al' (.slice AP' m' CP') (al'.map (·.1)) (.slice AD' q' CD') ds' [] wq) (fun i _ _ _ _ => m' - (intOf i).toNat)
          case atStart => exact ⟨t, by omega, by omega, rfl, H.out⟩
          case round =>
            obtain ⟨u, hu1, hu2, rfl, h⟩ := hrel
            replace H := Lib.hid h
            clear h
            by_cases hltu : u < m'
            · have hltu' : (u : Int) < m' := by omega
              obtain ⟨⟨sl, qs⟩, hx⟩ : ∃ x, al'[u]? = some x := ⟨_, List.getElem?_eq_getElem (by rw [← HM'.out]; exact hltu)⟩
              have HX : Hid ((al'.map (·.1))[u]? = some sl) := Lib.hid (by rw [List.getElem?_map, hx]; rfl)
              have HG := Lib.hid (Get_k H.out hl6.out u _ (by rw [← HT'.out]; omega) hx)
              clear hx
              go_wp2_with fail
              refine HG.out.mono ?_
              rintro e wy ⟨v, rfl, ho, h⟩
              obtain ⟨Av, cv, hv, _, _, hlie⟩ := Lie.of_own ho
              have HBA := Lib.hid (hlie.bytes (B := wy.heap.size) (fun b hb => hb.2))
              replace H := Lib.hid h
              obtain ⟨b2, c2, A2, cv2, hpe, hcc1, hcc2, hb2, hby, hcl⟩ := h.slot HX.out
              rw [List.length_map, ← HM'.out] at hpe hcc1
              injection hpe with e1 e2 e3
              subst e1 e3 hv
              have HBB := Lib.hid hby
              obtain ⟨k', l', s', d', f'⟩ := sl
              have hw2 := (Below.refl wy.heap.size wy).alloc (Nat.le_refl _) (.cells #[.int .i64 k', .int .i64 l', .int .i64 s', .slice Av d'.length cv, .int .i64 f'] 35)
              have p0 := cell_stays hw2.drew (hcl 0 _ rfl)
              rw [Nat.add_zero] at p0
              have p1 := cell_stays hw2.drew (hcl 1 _ rfl)
              have p2 := cell_stays hw2.drew (hcl 2 _ rfl)
              have p3 := cell_stays hw2.drew (hcl 3 _ rfl)
              have p4 := cell_stays hw2.drew (hcl 4 _ rfl)
              obtain ⟨z0, z1, z2, z3, z4⟩ := (Five.new wy 35 (.int .i64 k') (.int .i64 l') (.int .i64 s') (.slice Av d'.length cv) (.int .i64 f')).cells
              have HS := Lib.hid (Same_eq ⟨k', l', s', d', f'⟩ Av A2 d'.length cv cv2 (wy.alloc (.cells #[.int .i64 k', .int .i64 l', .int .i64 s', .slice Av d'.length cv, .int .i64 f'] 35)).drew (bytes_more (bytes_keep HBA.out hw2.drew) hw2.size) (bytes_more (bytes_keep HBB.out hw2.drew) hw2.size))
              have HW2 := Lib.hid (H.out.on hw2.drew)
              obtain ⟨N, hN⟩ : ∃ N, N = d'.length := ⟨_, rfl⟩
              rw [← hN] at HS HW2 z0 z1 z2 z3 z4 p0 p1 p2 p3 p4 ⊢
              unfold slotV at HS ⊢
              dsimp only at p0 p1 p2 p3 p4 z0 z1 z2 z3 z4 HS ⊢
              clear hN hby hcl hb2 hlie ho h hw2 HBA HBB HG e2
              go_wp2_with fail
              go_region_held3 (fun w' => Ten w' wy.heap.size b2 (u * 5) (.int .i64 k') (.int .i64 l') (.int .i64 s') (.slice Av N cv) (.int .i64 f') (.int .i64 k') (.int .i64 l') (.int .i64 s') (.slice A2 N cv2) (.int .i64 f'))
                (first | exact ⟨z0, z1, z2, z3, z4, p0, p1, p2, p3, p4⟩ | exact ten_keep (by assumption) hb)
                (first | (go_at_call 29; refine HS.out.mono ?_; rintro e6 w6 ⟨rfl, hb⟩; replace HW2 := Lib.hid (HW2.out.on hb)))
              clear z0 z1 z2 z3 z4 p0 p1 p2 p3 p4
              go_wp2
              go_roundw
              case rel =>
                first
                  | exact ⟨u + 1, by omega, by omega, by go_num, HW2.out⟩
                  | ((repeat apply Exists.intro); refine ⟨?_, rfl⟩; exact ⟨u + 1, by omega, by omega, by go_num, HW2.out⟩)
              case measure => simp [intOf]; omega
            · obtain rfl : u = m' := by omega
              go_wp2
              go_roundw
              case rel =>
                first
                  | exact ⟨j + 1, al', ds', by omega, by omega, by go_num, by rw [HT'.out], H.out, by rw [← HM'.out]; omega, by rw [← HQ'.out]; omega, HK.out⟩
                  | ((repeat apply Exists.intro); refine ⟨?_, rfl⟩; exact ⟨j + 1, al', ds', by omega, by omega, by go_num, by rw [HT'.out], H.out, by rw [← HM'.out]; omega, by rw [← HQ'.out]; omega, HK.out⟩)
              case measure => simp [intOf]; omega

theorem own : ownKnob Try.prog.godebug = none := by kernel_rfl
theorem laid : laidOutB Try.prog = true := by kernel_rfl

set_option maxRecDepth 100000 in
theorem lifted (os : Os) (started : os.Started) (H : Type) (enc : TypeId × Value → H) :
    ReturnsInHanded {} Try.checked os 5 .any (Rows.ringKeepsSpec.pre6 enc Try.prog Try.f5 Rows.ringKeepsRow.domain false) (Rows.ringKeepsSpec.post enc Try.prog Try.f5 false true false false) := by
  refine returnsInHanded_of_change (C := Try.checked) own started (by kernel_rfl) Try.func5
    (ChangeSpec.witness6 (enc := enc) (C := Try.checked) false ⟨#[], #[.int .i64 0, .slice none 0 0], []⟩ 8 (by kernel_rfl) (by kernel_rfl) (by kernel_rfl) (by kernel_rfl)) ?_
  intro W base args ds gs before hval0 hW _ _
  have hval : ∀ (j : Nat) t v, Try.f5.params[j]? = some t → args[j]? = some v → Value.okWide Try.prog W .any base t v := hval0
  have hW' := hW
  obtain ⟨p, q, hA0, hV, rfl, hfz, hnd⟩ := hW
  have hA : DataW.TrodAll enc Try.prog W 0 (fun _ => true) true Try.f5.params.toList args.toList ds p := hA0
  rw [Try.params5] at hA hval
  obtain ⟨v0, v1, d0, d1, p0, p1, rfl, rfl, rfl, h0, h1⟩ := trodAll_two hA
  obtain ⟨a0, rfl, rfl, rfl, wf0⟩ := open_int Try.underlying3 (hval 0 3 v0 rfl rfl) h0
  have hb0 : -9223372036854775808 ≤ a0 ∧ a0 ≤ 9223372036854775807 := by simpa [Lit.wf, IntKind.min, IntKind.max, IntKind.signed, IntKind.bits] using wf0
  obtain ⟨A1, n1, c1, rfl, hnc1, hcm1, hr1⟩ := RingOps.open_ops (hval 1 32 v1 rfl rfl) h1
  refine (walk a0 A1 n1 c1 W hb0.1 hb0.2 hnc1 hcm1 hr1).mono fun e W' ⟨he, hb⟩ => ?_
  subst he
  exact ⟨_, rfl, Law.post laid (by kernel_rfl) (by kernel_rfl) Try.underlying4 rfl hW' rfl hb⟩

theorem proved : Rows.RingKeepsSaid :=
  OpenClaim.holds_of_wide 5 Try.f5 rfl rfl rfl rfl rfl rfl rfl ⟨rfl, rfl, rfl, rfl, rfl⟩ rfl rfl rfl rfl rfl (by kernel_rfl) Try.func5 (by kernel_rfl)
    (of_decide_eq_true (by kernel_rfl)) (by unfold Func.isWrapper; first | (rw [if_pos (by decide +kernel)]; kernel_rfl) | (rw [if_neg (by decide +kernel)]; exact ⟨rfl, rfl⟩))
    (fun os started H enc _ => lifted os started H enc)

end Go.Proofs.Ytecmmihobojjpaa.ringKeeps
