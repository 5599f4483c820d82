/-
  What the document's answer of layer 13 does: May, Better, Order, Pick, Gain.
-/
import Derived.Test.YtodaigdlfpinhaaVictimPick
import Derived.Test.YtodaigdlfpinhaaInts
import Derived.BigQuiet
namespace Go.Proofs.Ytodaigdlfpinhaa.VictimPkg
open Go.RowKit Victim Lib
set_option maxRecDepth 4000

set_option maxHeartbeats 1000000 in
theorem May_any (x : Ln) (w : World) : Calls Try.prog 22 #[lineV x] w fun e w' => e = .returned (.bool (may x)) ∧ Below w.heap.size w w' := by
  obtain ⟨x0, x1, x2, x3, x4⟩ := x
  have HB := Lib.hid (box_line ⟨x0, x1, x2, x3, x4⟩ w)
  unfold lineV may
  dsimp only
  by_cases h1 : x0 = 2
  · subst h1
    by_cases h2 : 0 ≤ x3
    · by_cases h3 : x3 < x4
      · by_cases h4 : x4 ≤ 8192
        · go_enter Try.func22, Try.ntmps22
          go_wp2
          go_ret
          exact ⟨by first | rfl | (simp; done) | (simp; omega), HB.out⟩
        · go_enter Try.func22, Try.ntmps22
          go_wp2
          go_ret
          exact ⟨by first | rfl | (simp; done) | (simp; omega), HB.out⟩
      · go_enter Try.func22, Try.ntmps22
        go_wp2
        go_ret
        exact ⟨by first | rfl | (simp; done) | (simp; omega), HB.out⟩
    · go_enter Try.func22, Try.ntmps22
      go_wp2
      go_ret
      exact ⟨by first | rfl | (simp; done) | (simp; omega), HB.out⟩
  · go_enter Try.func22, Try.ntmps22
    go_wp2
    go_ret
    exact ⟨by first | rfl | (simp; done) | (simp; omega), HB.out⟩

/-- Is the line better, by the keys. -/
theorem Better_any {w : World} {B : Nat} {A : Option Addr} {n : Nat} {f : Nat → Ln} (h : Lines w B A n f) (c i j : Nat) (hi : i < n) (hj : j < n) :
    Calls Try.prog 23 #[.slice A n c, .int .i64 (i : Int), .int .i64 (j : Int)] w fun e w' => e = .returned (.bool (lt (key (f i) i) (key (f j) j))) ∧ Below w.heap.size w w' := by
  obtain ⟨b, off, rfl, hb, hl⟩ := h.form (by omega)
  obtain ⟨k0, k1, k2, k3, k4⟩ := hl i hi
  obtain ⟨q0, q1, q2, q3, q4⟩ := hl j hj
  have hi1 : (i : Int) < n := by omega
  have hj1 : (j : Int) < n := by omega
  have HL := Lib.hid (lt_iff (key (f i) i) (key (f j) j))
  obtain ⟨R, hR⟩ : ∃ R, R = lt (key (f i) i) (key (f j) j) := ⟨_, rfl⟩
  rw [← hR] at HL ⊢
  unfold key at HL
  generalize f i = x at *
  generalize f j = y at *
  obtain ⟨x0, x1, x2, x3, x4⟩ := x
  obtain ⟨y0, y1, y2, y3, y4⟩ := y
  dsimp only at *
  clear h hl hR k0 k2 k4 q0 q2 q4
  by_cases hv : x3 = y3
  · subst hv
    by_cases hw : x1 = y1
    · subst hw
      have HF : Hid (decide (i < j) = R) := Lib.hid (by
        have := HL.out
        cases R <;> simp at this ⊢ <;> omega)
      clear HL
      go_enter Try.func23, Try.ntmps23
      go_wp2_with fail
      go_quiet (fail)
      go_wp2_with fail
      go_quiet (fail)
      go_wp2
      go_ret
      exact ⟨congrArg (fun z => Ending.returned (.bool z)) HF.out, by repeat (first | exact Below.refl _ _ | refine below_dn ?_ _)⟩
    · have d1 : (x1 == y1) = false := by simpa using hw
      have HF : Hid (decide (x1 < y1) = R) := Lib.hid (by
        have := HL.out
        cases R <;> simp [hw] at this ⊢ <;> omega)
      clear HL hw
      go_enter Try.func23, Try.ntmps23
      go_wp2_with fail
      go_quiet (fail)
      go_wp2_with fail
      go_quiet (fail)
      go_wp2_with fail
      go_quiet (fail)
      go_wp2
      go_ret
      exact ⟨congrArg (fun z => Ending.returned (.bool z)) HF.out, by repeat (first | exact Below.refl _ _ | refine below_dn ?_ _)⟩
  · have d1 : (x3 == y3) = false := by simpa using hv
    have HF : Hid (decide (x3 < y3) = R) := Lib.hid (by
      have := HL.out
      cases R <;> simp [hv] at this ⊢ <;> omega)
    clear HL hv
    go_enter Try.func23, Try.ntmps23
    go_wp2_with fail
    go_quiet (fail)
    go_wp2_with fail
    go_quiet (fail)
    go_wp2
    go_ret
    exact ⟨congrArg (fun z => Ending.returned (.bool z)) HF.out, by repeat (first | exact Below.refl _ _ | refine below_dn ?_ _)⟩

theorem infoInt' : intInfo Try.prog 3 := by
  have h : (Try.prog.info? 3).map (fun i => (i.zero, i.size, i.bytes)) = some (some (.int .i64 0), 1, 8) := by kernel_rfl
  obtain ⟨i, hi, hzz⟩ := Option.map_eq_some_iff.1 h
  simp only [Prod.mk.injEq] at hzz
  exact ⟨i, hi, hzz.1, hzz.2.1, hzz.2.2⟩

theorem cntb_inj {f : Nat → Ln} {n i t : Nat} (hi : i < n) (hm : may (f i) = true) (ht : t < n) (hmt : may (f t) = true) (h : cntb f (key (f i) i) n = cntb f (key (f t) t) n) : i = t := by
  have h1 := idx_at hi hm
  have h2 := idx_at ht hmt
  rw [h, h2] at h1
  injection h1 with h1
  omega

set_option maxHeartbeats 4000000 in
theorem rOrder_any {w : World} {B : Nat} {A : Option Addr} {n : Nat} {f : Nat → Ln} (h : Lines w B A n f) (hB : B ≤ w.heap.size) (hn : n ≤ 1000) (c : Nat) :
    Calls Try.prog 14 #[.slice A n c] w fun e w' => ∃ Q m, e = .returned (.slice (some ⟨Q, 0, none⟩) m m) ∧ m = (rks f n).length ∧ w.heap.size ≤ Q ∧ Ints w' Q m (fun j => (idx f n).getD j 0) ∧ Below w.heap.size w w' := by
  have HL := Lib.hid h
  have HB := Lib.hid hB
  clear h hB
  go_enter Try.func14, Try.ntmps14
  go_wp2_with fail
  go_loopw [3, 4] (fun k i wr => ∃ t : Nat, k = .int .i64 ((rks f t).length : Int) ∧ i = .int .i64 (t : Int) ∧ t ≤ n ∧ Below w.heap.size w wr) (fun _ i _ => n - (intOf i).toNat)
  case atStart => exact ⟨0, rfl, rfl, by omega, Below.refl _ _⟩
  case round =>
    obtain ⟨t, rfl, rfl, ht, hbw⟩ := hrel
    have HBW := Lib.hid hbw
    by_cases htn : t < n
    · have htn' : (t : Int) < n := by omega
      obtain ⟨b, off, rfl, hb, hl⟩ := (HL.out.keep (hbw.mono HB.out)).form (show 0 < n by omega)
      obtain ⟨k0, k1, k2, k3, k4⟩ := hl t htn
      have HC := Lib.hid (fun w => May_any (f t) w)
      have HS : Hid ((rks f (t + 1)).length = (rks f t).length + if may (f t) = true then 1 else 0) := Lib.hid (by
        rw [rks_succ, List.length_append]
        split <;> rfl)
      have hll := rks_len f t
      obtain ⟨m, hm⟩ : ∃ m, m = may (f t) := ⟨_, rfl⟩
      rw [← hm] at HC HS
      unfold lineV at HC
      generalize f t = x at HC k0 k1 k2 k3 k4
      obtain ⟨x0, x1, x2, x3, x4⟩ := x
      dsimp only at k0 k1 k2 k3 k4 HC
      clear hl hbw hm
      generalize (rks f t).length = q at *
      go_wp2_with fail
      refine (HC.out _).mono ?_
      rintro e w2 ⟨rfl, hb2⟩
      replace HBW := Lib.hid (below_then HBW.out hb2)
      clear hb2 HC k0 k1 k2 k3 k4
      cases m with
      | false =>
        go_wp2
        go_roundw
        case measure => simp [intOf]; omega
        case rel => exact ⟨t + 1, by rw [HS.out]; rfl, by go_num, by omega, HBW.out⟩
      | true =>
        go_wp2
        go_roundw
        case measure => simp [intOf]; omega
        case rel => exact ⟨t + 1, by rw [HS.out]; simp, by go_num, by omega, HBW.out⟩
    · obtain rfl : n = t := by omega
      obtain ⟨m, hm⟩ : ∃ m, m = (rks f n).length := ⟨_, rfl⟩
      have hl := rks_len f n
      rw [← hm] at hl ⊢
      have HM := Lib.hid hm
      have hmk := run_make_ints (P := Try.prog) wr 28 3 Try.underlying28 infoInt' .i64 .i64 m (by omega)
      have HIN := Lib.hid (ints_made wr 3 m)
      have HB4 := Lib.hid (hbw.alloc hbw.size (.cells (List.replicate m (Value.int .i64 0)).toArray 3))
      have HQ := Lib.hid hbw.size
      generalize hX : wr.alloc (.cells (List.replicate m (Value.int .i64 0)).toArray 3) = X at *
      generalize wr.heap.size = Q at *
      clear hbw hX HBW hm
      go_wp2_with fail
      clear hmk
      go_loopw [6] (fun i wr => ∃ (t : Nat) (o : Nat → Int), i = .int .i64 (t : Int) ∧ t ≤ n ∧ Ints wr Q m o ∧ (∀ i, i < t → may (f i) = true → o (cntb f (key (f i) i) n) = (i : Int)) ∧ Below w.heap.size w wr) (fun i _ => n - (intOf i).toNat)
      case atStart => exact ⟨0, _, rfl, by omega, HIN.out, fun i hi => absurd hi (by omega), HB4.out⟩
      case round =>
        clear HIN HB4
        obtain ⟨t, o, rfl, ht, hin, ho, hbw⟩ := hrel
        have HIN := Lib.hid hin
        have HO := Lib.hid ho
        have HBW := Lib.hid hbw
        clear hin ho
        by_cases htn : t < n
        · have htn' : (t : Int) < n := by omega
          obtain ⟨b, off, rfl, hb, hl⟩ := (HL.out.keep (hbw.mono HB.out)).form (show 0 < n by omega)
          obtain ⟨k0, k1, k2, k3, k4⟩ := hl t htn
          have HC := Lib.hid (fun w => May_any (f t) w)
          obtain ⟨mt, hmt⟩ : ∃ m, m = may (f t) := ⟨_, rfl⟩
          rw [← hmt] at HC
          have HMT := Lib.hid hmt
          unfold lineV at HC
          generalize hx : f t = x at HC k0 k1 k2 k3 k4
          obtain ⟨x0, x1, x2, x3, x4⟩ := x
          dsimp only at k0 k1 k2 k3 k4 HC
          clear hl hbw hmt hx
          go_wp2_with fail
          refine (HC.out _).mono ?_
          rintro e w2 ⟨rfl, hb2⟩
          replace HBW := Lib.hid (below_then HBW.out hb2)
          replace HIN := Lib.hid (ints_keep HIN.out hb2)
          clear hb2 HC k0 k1 k2 k3 k4
          cases mt with
          | false =>
            go_wp2
            go_roundw
            case measure => simp [intOf]; omega
            case rel => exact ⟨t + 1, o, by go_num, by omega, HIN.out, fun i hi hm => HO.out i (by rcases Nat.lt_or_eq_of_le (Nat.le_of_lt_succ hi) with h | rfl; exact h; rw [← HMT.out] at hm; cases hm) hm, HBW.out⟩
          | true =>
            have hmt := HMT.out.symm
            have hcl := cntb_lt htn hmt
            rw [← HM.out] at hcl
            have hz0 : cntb f (key (f t) t) 0 = 0 := rfl
            go_wp2_with fail
            go_loopw [7, 8] (fun k j wr => ∃ q : Nat, k = .int .i64 ((cntb f (key (f t) t) q : Nat) : Int) ∧ j = .int .i64 (q : Int) ∧ q ≤ n ∧ Below w2.heap.size w2 wr) (fun _ j _ => n - (intOf j).toNat)
            case atStart => exact ⟨0, by rw [hz0]; rfl, rfl, by omega, Below.refl _ _⟩
            case round =>
              obtain ⟨q, rfl, rfl, hq, hb3⟩ := hrel
              have HB3 := Lib.hid hb3
              have HB3W := Lib.hid (below_then HBW.out hb3)
              have hcq := cntb_le f (key (f t) t) q
              have HSC := Lib.hid (cntb_succ f (key (f t) t) q)
              have hlines := HL.out.keep (HB3W.out.mono HB.out)
              by_cases hqn : q < n
              · have hqn' : (q : Int) < n := by omega
                obtain ⟨b', off', hbo, hb', hl⟩ := hlines.form (show 0 < n by omega)
                injection hbo with hbo
                injection hbo with e1 e2
                subst e1 e2
                obtain ⟨k0, k1, k2, k3, k4⟩ := hl q hqn
                have HC := Lib.hid (fun w => May_any (f q) w)
                have HBT := Lib.hid (fun (W : World) (hW : Below wr.heap.size wr W) => Better_any (hlines.keep (hW.mono (Nat.le_trans HB.out HB3W.out.size))) c q t hqn htn)
                obtain ⟨mq, hmq⟩ : ∃ m, m = may (f q) := ⟨_, rfl⟩
                obtain ⟨lq, hlq⟩ : ∃ m, m = lt (key (f q) q) (key (f t) t) := ⟨_, rfl⟩
                rw [← hmq] at HC HSC
                rw [← hlq] at HBT HSC
                unfold lineV at HC
                generalize hx : f q = x at HC k0 k1 k2 k3 k4
                obtain ⟨z0, z1, z2, z3, z4⟩ := x
                dsimp only at k0 k1 k2 k3 k4 HC
                generalize cntb f (key (f t) t) q = cq at *
                clear hl hb3 hlines hmq hlq hx hcl
                go_wp2_with fail
                refine (HC.out _).mono ?_
                rintro e w4 ⟨rfl, hb4⟩
                have HB4 := Lib.hid (below_then HB3.out hb4)
                have HBT4 := Lib.hid (HBT.out _ hb4)
                clear hb4 HC HBT k0 k1 k2 k3 k4
                cases mq with
                | false =>
                  go_wp2
                  go_roundw
                  case measure => simp [intOf]; omega
                  case rel => exact ⟨q + 1, by rw [HSC.out]; simp, by go_num, by omega, HB4.out⟩
                | true =>
                  go_wp2_with fail
                  refine HBT4.out.mono ?_
                  rintro e w5 ⟨rfl, hb5⟩
                  have HB5 := Lib.hid (below_then HB4.out hb5)
                  clear hb5 HBT4
                  cases lq with
                  | false =>
                    go_wp2
                    go_roundw
                    case measure => simp [intOf]; omega
                    case rel => exact ⟨q + 1, by rw [HSC.out]; simp, by go_num, by omega, HB5.out⟩
                  | true =>
                    go_wp2
                    go_roundw
                    case measure => simp [intOf]; omega
                    case rel => exact ⟨q + 1, by rw [HSC.out]; simp, by go_num, by omega, HB5.out⟩
              · obtain rfl : n = q := by omega
                have hin3 := ints_keep HIN.out hb3
                obtain ⟨kc, kz⟩ := hin3 _ hcl
                have HINS := Lib.hid (ints_set hin3 hcl (t : Int))
                have HOS : Hid (∀ i, i < t + 1 → may (f i) = true → (if cntb f (key (f i) i) n = cntb f (key (f t) t) n then (t : Int) else o (cntb f (key (f i) i) n)) = (i : Int)) := Lib.hid (fun i hi hm => by
                  by_cases he : cntb f (key (f i) i) n = cntb f (key (f t) t) n
                  · rw [if_pos he, cntb_inj (by omega) hm htn hmt he]
                  · rw [if_neg he]
                    refine HO.out i ?_ hm
                    rcases Nat.lt_or_eq_of_le (Nat.le_of_lt_succ hi) with h | rfl
                    · exact h
                    · exact absurd rfl he)
                have HBS := Lib.hid (HB3W.out.setCell (p := ⟨Q, cntb f (key (f t) t) n, none⟩) HQ.out (.int .i64 (t : Int)))
                have hcl' : ((cntb f (key (f t) t) n : Nat) : Int) < m := by omega
                clear hb3 hin3 hlines HSC hcq
                generalize cntb f (key (f t) t) n = kk at *
                go_wp2
                go_roundw
                case measure => simp [intOf]; omega
                case rel => exact ⟨t + 1, _, by go_num, by omega, HINS.out, HOS.out, HBS.out⟩
        · obtain rfl : t = n := by omega
          have HE : Hid (Ints wr Q m (fun j => (idx f t).getD j 0)) := Lib.hid (by
            have hz : (List.range m).map o = idx f t := idx_is (by simpa using HM.out) (fun i hi hm => by
              have hc := cntb_lt hi hm
              rw [← HM.out] at hc
              rw [List.getElem?_map, List.getElem?_range hc]
              simp [HO.out i hi hm])
            refine ints_eq HIN.out fun j hj => ?_
            rw [← hz]
            simp [hj])
          go_wp2
          go_ret
          exact ⟨Q, m, rfl, HM.out, HQ.out, HE.out, HBW.out⟩

end Go.Proofs.Ytodaigdlfpinhaa.VictimPkg
