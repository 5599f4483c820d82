/-
  QueueBusy holds: all channels' jobs of a line are counted. No condition.
-/
import Derived.Test.YtkpneckgpolaoaaQueueKit
import Derived.BigQuiet
namespace Go.Proofs.Ytkpneckgpolaoaa.queueBusy
open Go.RowKit Go.ChangeShapes Go.WideShapes Queue QueuePkg QueueLaw
set_option maxRecDepth 4000

/-- The jobs of the places js, each in its channel. -/
def seg (zs : List Int) (js : List Nat) : Js := fun c => (js.filter (fun j => j % 3 == c)).map (fun j => ln (zs.getD j 0))

theorem seg_len (zs : List Int) (js : List Nat) (c : Nat) : (seg zs js c).length ≤ js.length := by
  unfold seg
  rw [List.length_map]
  exact List.length_filter_le _ _

theorem seg_put {zs : List Int} {js : List Nat} {i c : Nat} {x : Int} (hc : i % 3 = c) (hx : zs[i]? = some x) : putQ 3 (seg zs js) (c : Int) (ln x) = seg zs (js ++ [i]) := by
  have hc3 : (c : Int) < 3 := by omega
  rw [putQ, if_pos ⟨by omega, hc3⟩, Int.toNat_natCast]
  funext d
  by_cases hd : d = c
  · subst hd
    rw [upd_same]
    simp [seg, hc, List.getD, hx]
  · rw [upd_other _ hd]
    have : (i % 3 == d) = false := by simp; omega
    simp [seg, this]

theorem seg_jobs {zs : List Int} {js : List Nat} {i c : Nat} {x : Int} (hc : i % 3 = c) (hx : zs[i]? = some x) : jobs 3 (seg zs (i :: js)) (c : Int) = ln x :: seg zs js c := by
  have hc3 : (c : Int) < 3 := by omega
  rw [jobs, if_pos ⟨by omega, hc3⟩, Int.toNat_natCast]
  simp [seg, hc, List.getD, hx]

theorem seg_pop {zs : List Int} {js : List Nat} {i c : Nat} (hc : i % 3 = c) : popQ 3 (seg zs (i :: js)) (c : Int) = seg zs js := by
  have hc3 : (c : Int) < 3 := by omega
  rw [popQ, if_pos ⟨by omega, hc3⟩, Int.toNat_natCast]
  funext d
  by_cases hd : d = c
  · subst hd
    rw [upd_same]
    simp [seg, hc]
  · rw [upd_other _ hd]
    have : (i % 3 == d) = false := by simp; omega
    simp [seg, this]

theorem seg_many {zs : List Int} {js : List Nat} {i c : Nat} {x : Int} (z : Int) (hc : i % 3 = c) (hx : zs[i]? = some x) : busy (seg zs (i :: js)) z = busy (seg zs js) z + (if x = z then 1 else 0) := by
  have hc4 : c < 4 := by omega
  have h := busy_pop (seg zs (i :: js)) z hc4 (j := ln x) (l := seg zs js c) (by simp [seg, hc, List.getD, hx])
  have h2 := seg_pop (zs := zs) (js := js) hc
  have hc3 : (c : Int) < 3 := by omega
  rw [popQ, if_pos ⟨by omega, hc3⟩, Int.toNat_natCast] at h2
  have h3 : (seg zs (i :: js) c).drop 1 = seg zs js c := by simp [seg, hc]
  rw [h3] at h2
  rw [h2] at h
  exact h.symm

theorem seg_more {zs : List Int} {js : List Nat} {i c : Nat} {x : Int} (z : Int) (hc : i % 3 = c) (hx : zs[i]? = some x) : busy (seg zs (js ++ [i])) z = busy (seg zs js) z + (if x = z then 1 else 0) := by
  have hc4 : c < 4 := by omega
  have hc3 : (c : Int) < 3 := by omega
  rw [← seg_put hc hx, putQ, if_pos ⟨by omega, hc3⟩, Int.toNat_natCast]
  exact busy_put _ z hc4 (ln x)

theorem range_first {k n : Nat} (h : k < n) : List.range' k (n - k) = k :: List.range' (k + 1) (n - (k + 1)) := by
  rw [show n - k = (n - (k + 1)) + 1 by omega]
  exact List.range'_succ

theorem range_last (k : Nat) : List.range' 0 (k + 1) = List.range' 0 k ++ [k] := by
  rw [List.range'_concat]
  simp

set_option maxHeartbeats 2000000 in
theorem walk (A : Option Addr) (n cap : Nat) (zs : List Int) (z : Int) (w : World) (_hnc : n ≤ cap) (hcm : cap ≤ maxLen) (hr : Nums w w.heap.size A n zs) :
    Calls Try.prog 6 #[.slice A n cap, .int .i64 z] w fun e w' => e = .returned (.bool true) ∧ Below w.heap.size w w' := by
  obtain ⟨N, hN⟩ : ∃ N, N = min n 100 := ⟨_, rfl⟩
  have hNn : N ≤ n := by omega
  have hNh : N ≤ 100 := by omega
  have hNe : N = n ∨ N = 100 := by omega
  have HA := Lib.hid (awake_any w)
  have HN := Lib.hid (fun X (hX : Below w.heap.size w X) => New_m (S := fun _ => False) 3 (by omega) (by omega) hX (fun b hb => hb.elim))
  have HP := Lib.hid (fun X g js (c : Nat) x (hc : c < 3) (hl : js.length ≤ 100) (hX : Mine w g 3 (seg zs js) (fun _ => False) X) => Put_m hX (c : Int) (ln x) none 0 0 0 (by omega) (nums_nil _ _) (Nat.zero_le _) (by rw [jobs, if_pos (by omega), Int.toNat_natCast]; exact Nat.le_trans (seg_len zs js c) (by omega)))
  have HB := Lib.hid (fun X g js S (hl : js.length ≤ 100) (hX : Mine w g 3 (seg zs js) S X) => Busy_m hX (fun c _ => Nat.le_trans (seg_len zs js c) (by omega)) z)
  have HO := Lib.hid (fun X g js c (hX : Mine w g 3 (seg zs js) (fun _ => False) X) => Pop_m hX c)
  have HR := Lib.hid hr
  have HZ := Lib.hid hr.1
  unfold maxLen at hcm
  clear hr hN
  go_enter Try.func6, Try.ntmps6
  go_wp2_with fail
  refine HA.out.mono ?_
  rintro e w1 ⟨rfl, hb1⟩
  have HW := Lib.hid hb1
  clear hb1 HA
  go_wp2_with fail
  refine (HN.out _ HW.out).mono ?_
  rintro e w2 ⟨rfl, hm, _⟩
  obtain ⟨g, hg⟩ : ∃ g, w1.heap.size = g := ⟨_, rfl⟩
  rw [hg] at hm ⊢
  have HM : Hid (Mine w g 3 (seg zs (List.range' 0 0)) (fun _ => False) w2) := Lib.hid hm
  have HZ0 : Hid (busy (seg zs (List.range' 0 0)) z = 0) := Lib.hid rfl
  clear hm HN hg HW
  go_wp2
  go_loopw [8, 9] (fun m i wr => ∃ j t : Nat, m = .int .i64 (t : Int) ∧ i = .int .i64 (j : Int) ∧ j ≤ N ∧ t ≤ j ∧ Mine w g 3 (seg zs (List.range' 0 j)) (fun _ => False) wr ∧ Hid (busy (seg zs (List.range' 0 j)) z = t)) (fun _ i _ => N - (intOf i).toNat)
  case atStart => exact ⟨0, 0, rfl, rfl, by omega, by omega, HM.out, HZ0⟩
  case round =>
    obtain ⟨j, t, rfl, rfl, hj, ht, hm, HT⟩ := hrel
    replace HM := Lib.hid hm
    clear hm HZ0
    have hj0 : (0 : Int) ≤ (j : Int) := by omega
    by_cases hjn : j < N
    · have hjn2 : (j : Int) < (n : Int) := by omega
      have hjh : (j : Int) < 100 := by omega
      obtain ⟨b, off, x, rfl, _, hx, hcell, _⟩ := (nums_keep HR.out HM.out.below).at_ (k := j) (by omega)
      obtain ⟨c, hc⟩ : ∃ c, j % 3 = c := ⟨_, rfl⟩
      have hrem : (j : Int) % 3 = (c : Int) := by omega
      have HC := Lib.hid hc
      have hc3 : c < 3 := by omega
      have HX := Lib.hid hx
      clear hx hc
      go_wp2_with fail
      refine (HP.out _ _ _ c x hc3 (by simp; omega) HM.out).mono ?_
      rintro e w3 ⟨rfl, hm, _, _⟩
      rw [seg_put HC.out HX.out, ← range_last] at hm
      replace HM := Lib.hid hm
      have hmany := seg_more (js := List.range' 0 j) z HC.out HX.out
      rw [← range_last, HT.out] at hmany
      clear hm hcell
      obtain ⟨b', off', x', e1, _, hx', hcell, _⟩ := (nums_keep HR.out HM.out.below).at_ (k := j) (by omega)
      injection e1 with e1
      injection e1 with e1 e2
      subst e1 e2
      obtain rfl : x = x' := by have h := HX.out; rw [hx'] at h; injection h with h; exact h.symm
      clear hx'
      have HB2 := Lib.hid (HB.out w3 g (List.range' 0 (j + 1)) (fun _ => False) (by simp; omega) HM.out)
      by_cases hxz : x = z
      · rw [if_pos hxz] at hmany
        have HMA := Lib.hid hmany
        rw [hmany] at HB2
        clear hmany
        subst hxz
        go_wp2_with fail
        refine HB2.out.mono ?_
        rintro e w4 ⟨rfl, hb⟩
        replace HM := Lib.hid (HM.out.same hb)
        clear hb HB2
        go_wp2
        go_roundw
        case rel => exact ⟨j + 1, t + 1, by go_num, by go_num, by omega, by omega, HM.out, HMA⟩
        case measure => simp [intOf]; omega
      · rw [if_neg hxz, Nat.add_zero] at hmany
        have HMA := Lib.hid hmany
        rw [hmany] at HB2
        clear hmany
        go_wp2_with fail
        refine HB2.out.mono ?_
        rintro e w4 ⟨rfl, hb⟩
        replace HM := Lib.hid (HM.out.same hb)
        clear hb HB2
        go_wp2
        go_roundw
        case rel => exact ⟨j + 1, t, rfl, by go_num, by omega, by omega, HM.out, HMA⟩
        case measure => simp [intOf]; omega
    · obtain rfl : j = N := by omega
      have ht100 : t ≤ 100 := by omega
      have hnx : ¬ ((j : Int) < (n : Int)) ∨ ((j : Int) < (n : Int) ∧ ¬ ((j : Int) < 100)) := by omega
      have HM2 : Hid (Mine w g 3 (seg zs (List.range' 0 (j - 0))) (fun _ => False) wr) := HM
      have HT2 : Hid (busy (seg zs (List.range' 0 (j - 0))) z = t) := HT
      clear HM HT HP
      rcases hnx with hnx | ⟨hnx0, hnx⟩
      · go_wp2
        go_loopw [8, 10] (fun m i wr => ∃ k t : Nat, m = .int .i64 (t : Int) ∧ i = .int .i64 (k : Int) ∧ k ≤ j ∧ t ≤ 100 ∧ Mine w g 3 (seg zs (List.range' k (j - k))) (fun _ => False) wr ∧ Hid (busy (seg zs (List.range' k (j - k))) z = t)) (fun _ i _ => j - (intOf i).toNat)
        case atStart => exact ⟨0, t, rfl, rfl, by omega, ht100, HM2.out, HT2⟩
        case round =>
          clear ht100 HT2 HM2 ht
          obtain ⟨k, t, rfl, rfl, hk, ht, hm, HT⟩ := hrel
          have HM := Lib.hid hm
          clear hm
          have hk0 : (0 : Int) ≤ (k : Int) := by omega
          by_cases hkn : k < j
          · have hkn2 : (k : Int) < (n : Int) := by omega
            have hkh : (k : Int) < 100 := by omega
            obtain ⟨c, hc⟩ : ∃ c, k % 3 = c := ⟨_, rfl⟩
            have hrem : (k : Int) % 3 = (c : Int) := by omega
            obtain ⟨b, off, x, rfl, _, hx, _, _⟩ := HR.out.at_ (k := k) (by omega)
            rw [range_first hkn] at HM HT
            rw [seg_many z hc hx] at HT
            have hP := HO.out _ _ _ (c : Int) HM.out
            rw [seg_jobs hc hx, seg_pop hc] at hP
            have HP := Lib.hid hP
            have HX := Lib.hid hx
            obtain ⟨s, hs⟩ : ∃ s, busy (seg zs (List.range' (k + 1) (j - (k + 1)))) z = s := ⟨_, rfl⟩
            have HS := Lib.hid hs
            rw [hs] at HT
            clear hP hs hx hc
            go_wp2_with fail
            refine HP.out.mono ?_
            rintro e w3 ⟨v, rfl, ho, hm, _, _⟩
            obtain ⟨A1, n1, c1, rfl⟩ := ho.form
            replace HM := Lib.hid (hm.less (S' := fun _ => False) (fun b hb => hb.elim))
            clear hm ho HP
            go_upto_region 18 with fail
            refine at_wld ?_
            intro Y hY
            have hf : Five Y w3.heap.size 32 (.int .i64 0) (.int .i64 x) (.int .i64 0) (.int .i64 0) (.slice A1 n1 c1) := by rw [hY]; exact Five.new w3 _ _ _ _ _ _
            have hb : Below w3.heap.size w3 Y := by rw [hY]; exact (Below.refl _ _).alloc (Nat.le_refl _) _
            replace HM := Lib.hid (HM.out.same hb)
            have HF := Lib.hid hf
            obtain ⟨_, k1, _⟩ := hf.cells
            obtain ⟨b', off', x', e1, _, hx', hcell, _⟩ := (nums_keep HR.out HM.out.below).at_ (k := k) (by omega)
            injection e1 with e1
            injection e1 with e1 e2
            subst e1 e2
            obtain rfl : x = x' := by have h := HX.out; rw [hx'] at h; injection h with h; exact h.symm
            clear hf hb hY hx'
            go_quiet (fail)
            replace HM := Lib.hid (HM.out.same (below_draws (Below.refl Y.heap.size Y) nq))
            have HB2 := Lib.hid (HB.out _ g (List.range' (k + 1) (j - (k + 1))) (fun _ => False) (by simp; omega) HM.out)
            rw [HS.out] at HB2
            by_cases hxz : x = z
            · rw [if_pos hxz] at HT
              obtain rfl : t = s + 1 := HT.out.symm
              subst hxz
              go_wp2_with fail
              refine HB2.out.mono ?_
              rintro e w4 ⟨rfl, hb⟩
              replace HM := Lib.hid (HM.out.same hb)
              clear hb HB2
              go_wp2
              go_roundw
              case rel => exact ⟨k + 1, s, by go_num, by go_num, by omega, by omega, HM.out, HS⟩
              case measure => simp [intOf]; omega
            · rw [if_neg hxz, Nat.add_zero] at HT
              obtain rfl : t = s := HT.out.symm
              go_wp2_with fail
              refine HB2.out.mono ?_
              rintro e w4 ⟨rfl, hb⟩
              replace HM := Lib.hid (HM.out.same hb)
              clear hb HB2
              go_wp2
              go_roundw
              case rel => exact ⟨k + 1, t, rfl, by go_num, by omega, by omega, HM.out, HS⟩
              case measure => simp [intOf]; omega
          · obtain rfl : k = j := by omega
            rw [Nat.sub_self] at HT
            obtain rfl : t = 0 := HT.out.symm
            go_wp2
            go_ret
            exact ⟨rfl, HM.out.below⟩
      · go_wp2
        go_loopw [8, 10] (fun m i wr => ∃ k t : Nat, m = .int .i64 (t : Int) ∧ i = .int .i64 (k : Int) ∧ k ≤ j ∧ t ≤ 100 ∧ Mine w g 3 (seg zs (List.range' k (j - k))) (fun _ => False) wr ∧ Hid (busy (seg zs (List.range' k (j - k))) z = t)) (fun _ i _ => j - (intOf i).toNat)
        case atStart => exact ⟨0, t, rfl, rfl, by omega, ht100, HM2.out, HT2⟩
        case round =>
          clear ht100 HT2 HM2 ht
          obtain ⟨k, t, rfl, rfl, hk, ht, hm, HT⟩ := hrel
          have HM := Lib.hid hm
          clear hm
          have hk0 : (0 : Int) ≤ (k : Int) := by omega
          by_cases hkn : k < j
          · have hkn2 : (k : Int) < (n : Int) := by omega
            have hkh : (k : Int) < 100 := by omega
            obtain ⟨c, hc⟩ : ∃ c, k % 3 = c := ⟨_, rfl⟩
            have hrem : (k : Int) % 3 = (c : Int) := by omega
            obtain ⟨b, off, x, rfl, _, hx, _, _⟩ := HR.out.at_ (k := k) (by omega)
            rw [range_first hkn] at HM HT
            rw [seg_many z hc hx] at HT
            have hP := HO.out _ _ _ (c : Int) HM.out
            rw [seg_jobs hc hx, seg_pop hc] at hP
            have HP := Lib.hid hP
            have HX := Lib.hid hx
            obtain ⟨s, hs⟩ : ∃ s, busy (seg zs (List.range' (k + 1) (j - (k + 1)))) z = s := ⟨_, rfl⟩
            have HS := Lib.hid hs
            rw [hs] at HT
            clear hP hs hx hc
            go_wp2_with fail
            refine HP.out.mono ?_
            rintro e w3 ⟨v, rfl, ho, hm, _, _⟩
            obtain ⟨A1, n1, c1, rfl⟩ := ho.form
            replace HM := Lib.hid (hm.less (S' := fun _ => False) (fun b hb => hb.elim))
            clear hm ho HP
            go_upto_region 18 with fail
            refine at_wld ?_
            intro Y hY
            have hf : Five Y w3.heap.size 32 (.int .i64 0) (.int .i64 x) (.int .i64 0) (.int .i64 0) (.slice A1 n1 c1) := by rw [hY]; exact Five.new w3 _ _ _ _ _ _
            have hb : Below w3.heap.size w3 Y := by rw [hY]; exact (Below.refl _ _).alloc (Nat.le_refl _) _
            replace HM := Lib.hid (HM.out.same hb)
            have HF := Lib.hid hf
            obtain ⟨_, k1, _⟩ := hf.cells
            obtain ⟨b', off', x', e1, _, hx', hcell, _⟩ := (nums_keep HR.out HM.out.below).at_ (k := k) (by omega)
            injection e1 with e1
            injection e1 with e1 e2
            subst e1 e2
            obtain rfl : x = x' := by have h := HX.out; rw [hx'] at h; injection h with h; exact h.symm
            clear hf hb hY hx'
            go_quiet (fail)
            replace HM := Lib.hid (HM.out.same (below_draws (Below.refl Y.heap.size Y) nq))
            have HB2 := Lib.hid (HB.out _ g (List.range' (k + 1) (j - (k + 1))) (fun _ => False) (by simp; omega) HM.out)
            rw [HS.out] at HB2
            by_cases hxz : x = z
            · rw [if_pos hxz] at HT
              obtain rfl : t = s + 1 := HT.out.symm
              subst hxz
              go_wp2_with fail
              refine HB2.out.mono ?_
              rintro e w4 ⟨rfl, hb⟩
              replace HM := Lib.hid (HM.out.same hb)
              clear hb HB2
              go_wp2
              go_roundw
              case rel => exact ⟨k + 1, s, by go_num, by go_num, by omega, by omega, HM.out, HS⟩
              case measure => simp [intOf]; omega
            · rw [if_neg hxz, Nat.add_zero] at HT
              obtain rfl : t = s := HT.out.symm
              go_wp2_with fail
              refine HB2.out.mono ?_
              rintro e w4 ⟨rfl, hb⟩
              replace HM := Lib.hid (HM.out.same hb)
              clear hb HB2
              go_wp2
              go_roundw
              case rel => exact ⟨k + 1, t, rfl, by go_num, by omega, by omega, HM.out, HS⟩
              case measure => simp [intOf]; omega
          · obtain rfl : k = j := by omega
            rw [Nat.sub_self] at HT
            obtain rfl : t = 0 := HT.out.symm
            go_wp2
            go_ret
            exact ⟨rfl, HM.out.below⟩

theorem own : ownKnob Try.prog.godebug = none := by kernel_rfl
theorem laid : laidOutB Try.prog = true := by kernel_rfl
theorem one64 : Try.prog.cellsOf 3 = 1 := by kernel_rfl

set_option maxRecDepth 100000 in
theorem lifted (os : Os) (started : os.Started) (H : Type) (enc : TypeId × Value → H) :
    ReturnsInHanded {} Try.checked os 6 .any (Rows.queueBusySpec.pre6 enc Try.prog Try.f6 Rows.queueBusyRow.domain false) (Rows.queueBusySpec.post enc Try.prog Try.f6 false true false false) := by
  refine returnsInHanded_of_change (C := Try.checked) own started (by kernel_rfl) Try.func6
    (ChangeSpec.witness6 (enc := enc) (C := Try.checked) false ⟨#[], #[.slice none 0 0, .int .i64 0], []⟩ 8 (by kernel_rfl) (by kernel_rfl) (by kernel_rfl) (by kernel_rfl)) ?_
  intro W base args ds gs before hval0 hW _ _
  have hval : ∀ (j : Nat) t v, Try.f6.params[j]? = some t → args[j]? = some v → Value.okWide Try.prog W .any base t v := hval0
  have hW' := hW
  obtain ⟨p, q, hA0, hV, rfl, hfz, hnd⟩ := hW
  have hA : DataW.TrodAll enc Try.prog W 0 (fun _ => true) true Try.f6.params.toList args.toList ds p := hA0
  rw [Try.params6] at hA hval
  obtain ⟨v0, v1, d0, d1, p0, p1, rfl, rfl, rfl, h0, h1⟩ := trodAll_two hA
  obtain ⟨A0, n0, c0, zs0, rfl, hnc0, hcm0, hr0⟩ := open_nums Try.underlying30 Try.underlying3 one64 (hval 0 30 v0 rfl rfl) h0
  obtain ⟨a1, rfl, rfl, rfl, _⟩ := open_int Try.underlying3 (hval 1 3 v1 rfl rfl) h1
  refine (walk A0 n0 c0 zs0 a1 W hnc0 hcm0 hr0).mono fun e W' ⟨he, hb⟩ => ?_
  subst he
  exact ⟨_, rfl, Law.post laid (by kernel_rfl) (by kernel_rfl) Try.underlying4 rfl hW' rfl hb⟩

theorem proved : Rows.QueueBusySaid :=
  OpenClaim.holds_of_wide 6 Try.f6 rfl rfl rfl rfl rfl rfl rfl ⟨rfl, rfl, rfl, rfl, rfl⟩ rfl rfl rfl rfl rfl (by kernel_rfl) Try.func6 (by kernel_rfl)
    (of_decide_eq_true (by kernel_rfl)) (by unfold Func.isWrapper; first | (rw [if_pos (by decide +kernel)]; kernel_rfl) | (rw [if_neg (by decide +kernel)]; exact ⟨rfl, rfl⟩))
    (fun os started H enc _ => lifted os started H enc)

end Go.Proofs.Ytkpneckgpolaoaa.queueBusy
