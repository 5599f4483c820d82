/-
  What each function of package oob does, the second part: pack.
-/
import Derived.Test.YteonjdigcecceaaOobWalks
namespace Go.Proofs.Yteonjdigcecceaa.OobPkg
open Go.RowKit
set_option maxRecDepth 4000
attribute [-go_sem] loadCellsFrom

set_option maxHeartbeats 1000000 in
theorem pack_any (k l s : Int) (A : Option Addr) (c : Nat) (d : List UInt8) (w : World) (hok : Oob.Ok k l s) (hr : Bytes w w.heap.size A 16 d) :
    Calls Try.prog 37 #[oob k l s, .slice A 16 c] w fun e w' => e = .returned (.agg ((Oob.full k l s d).map cellOf).toArray) ∧ Below w.heap.size w w' := by
  have HR := Lib.hid hr
  have HOK := Lib.hid hok
  clear hr hok
  go_enter Try.func37, Try.ntmps37
  go_wp2
  refine at_world ?_
  intro X hX
  obtain ⟨xs, hxs⟩ : ∃ xs, xs = UInt8.ofNat k.toNat :: List.replicate 28 0 := ⟨_, rfl⟩
  have HK := HOK.out.1
  have HA : Arr X (w.heap.size + 1 + 1) 90 xs := by
    have h := Arr.new ((w.alloc (.cells #[.int .i64 k, .int .i64 l, .int .i64 s] 44)).alloc (.cells ((List.replicate 17 (0 : UInt8)).map cellOf).toArray 70)) 90 xs
    rw [hX, hxs]
    rw [hxs] at h
    have e : cellOf (UInt8.ofNat k.toNat) = .int .u8 (k % 256) := by
      unfold cellOf
      rw [UInt8.toNat_ofNat']
      congr 1
      omega
    simp only [List.map_cons, e] at h
    simpa [cellOf, List.replicate] using h
  have HZ : Arr X (w.heap.size + 1) 70 (List.replicate 17 0) := by
    have h := (Arr.new (w.alloc (.cells #[.int .i64 k, .int .i64 l, .int .i64 s] 44)) 70 (List.replicate 17 0)).old (.cells #[.int .u8 (k % 256), .int .u8 0, .int .u8 0, .int .u8 0, .int .u8 0, .int .u8 0, .int .u8 0, .int .u8 0, .int .u8 0, .int .u8 0, .int .u8 0, .int .u8 0, .int .u8 0, .int .u8 0, .int .u8 0, .int .u8 0, .int .u8 0, .int .u8 0, .int .u8 0, .int .u8 0, .int .u8 0, .int .u8 0, .int .u8 0, .int .u8 0, .int .u8 0, .int .u8 0, .int .u8 0, .int .u8 0, .int .u8 0] 90)
    rw [hX]
    simpa [cellOf, List.replicate] using h
  have HB : Below w.heap.size w X := by
    rw [hX]
    exact (((Below.refl w.heap.size w).alloc (Nat.le_refl _) _).alloc (by simp) _).alloc (by simp; omega) _
  have hc1 : X.cell? ⟨w.heap.size, 1, none⟩ = some (.int .i64 l) := by
    rw [hX]
    exact cell_stays (((Below.refl _ _).alloc (Nat.le_refl _) _).alloc (by simp) _) (show (w.alloc (.cells #[.int .i64 k, .int .i64 l, .int .i64 s] 44)).cell? _ = _ by simp [World.cell?_alloc_at])
  have hc2 : X.cell? ⟨w.heap.size, 2, none⟩ = some (.int .i64 s) := by
    rw [hX]
    exact cell_stays (((Below.refl _ _).alloc (Nat.le_refl _) _).alloc (by simp) _) (show (w.alloc (.cells #[.int .i64 k, .int .i64 l, .int .i64 s] 44)).cell? _ = _ by simp [World.cell?_alloc_at])
  clear hX HK
  have hxl : xs.length = 29 := by rw [hxs]; rfl
  have HXL := Lib.hid hxl
  have HXS := Lib.hid hxs
  clear hxs hxl
  have hGm : w.heap.size < w.heap.size + 1 + 1 := by omega
  have hRm : w.heap.size + 1 < w.heap.size + 1 + 1 := by omega
  have hGr : w.heap.size < w.heap.size + 1 := by omega
  obtain ⟨M, hM⟩ : ∃ M, M = w.heap.size + 1 + 1 := ⟨_, rfl⟩
  rw [← hM] at hGm hRm HA ⊢
  clear hM
  obtain ⟨R, hR⟩ : ∃ R, R = w.heap.size + 1 := ⟨_, rfl⟩
  rw [← hR] at hGr hRm HZ ⊢
  clear hR
  have hwl : IntKind.u32.wrap l = l := by have := HOK.out; unfold Oob.Ok at this; rw [IntKind.wrap_u32]; omega
  have hl0 : 0 ≤ l := HOK.out.2.2.1
  have hl1 : l ≤ 4294967295 := by have := HOK.out.2.2.2.1; omega
  obtain ⟨lo, hlo⟩ : ∃ lo, lo = s % 4294967296 := ⟨_, rfl⟩
  obtain ⟨hi, hhi⟩ : ∃ hi, hi = s / 4294967296 := ⟨_, rfl⟩
  have hwlo : IntKind.u32.wrap s = lo := by rw [hlo, IntKind.wrap_u32]
  have hwhi : IntKind.u32.wrap hi = hi := by have := HOK.out; unfold Oob.Ok at this; rw [IntKind.wrap_u32]; omega
  have hlo0 : 0 ≤ lo := by omega
  have hlo1 : lo ≤ 4294967295 := by omega
  have hhi0 : 0 ≤ hi := by have := HOK.out; unfold Oob.Ok at this; omega
  have hhi1 : hi ≤ 4294967295 := by have := HOK.out; unfold Oob.Ok at this; omega
  have HLO := Lib.hid hlo
  have HHI := Lib.hid hhi
  clear hlo
  rw [hhi] at hwhi
  have hwhi2 : IntKind.u32.wrap (s / 4294967296) = hi := by rw [hwhi, hhi]
  clear hwhi hhi
  replace HA := Lib.hid HA
  replace HZ := Lib.hid HZ
  replace HB := Lib.hid HB
  have HBM := Lib.hid (Below.refl M X)
  go_region_held3 (fun w' => w'.cell? ⟨w.heap.size, 1, none⟩ = some (.int .i64 l)) (first | exact (HBM.out.cell (p := ⟨w.heap.size, 1, none⟩) hGm).trans hc1 | exact (hb3.cell (p := ⟨w.heap.size, 1, none⟩) hGm).trans hc1 | exact cell_stays hb (by assumption))
    (first
      | (go_at_call 52; refine (fixed_is l _ hl0 hl1).mono ?_; rintro e w2 ⟨A2, c2, rfl, hr2, hb⟩)
      | (refine step_copy_splice rfl (.tmp 11) (.tmp 15) 40 40 rfl 5 Try.underlying40 size8 _ _ _ _ _ _ rfl rfl M 1 (xs.map cellOf) 90 (HA.out.keepd hb) ((Wire.fx (l).toNat).map cellOf) rfl (src_ok (by omega) hr2) (by rw [fx_cells, List.length_map, HXL.out]; omega) (cells_one _) M X (below_ond HBM.out (Nat.le_of_lt HA.out.lt) hb) (Nat.le_refl _) ?_; intro w3 hg3 hb3))
  obtain ⟨xs1, hxs1⟩ : ∃ ys, ys = over xs 1 (Wire.fx (l).toNat) := ⟨_, rfl⟩
  replace HA := Lib.hid (show Arr w3 M 90 xs1 by rw [hxs1]; exact Arr.of_copy hg3)
  replace HXL := Lib.hid (show xs1.length = 29 by rw [hxs1, over_len (by rw [fx_len, HXL.out]; omega)]; exact HXL.out)
  have Hxs1 := Lib.hid hxs1
  replace HBM := Lib.hid hb3
  clear hr2 hb hg3 hb3 hxs1
  go_wp2
  go_region_held3 (fun w' => w'.cell? ⟨w.heap.size, 2, none⟩ = some (.int .i64 s)) (first | exact (HBM.out.cell (p := ⟨w.heap.size, 2, none⟩) hGm).trans hc2 | exact (hb3.cell (p := ⟨w.heap.size, 2, none⟩) hGm).trans hc2 | exact cell_stays hb (by assumption))
    (first
      | (go_at_call 52; refine (fixed_is lo _ hlo0 hlo1).mono ?_; rintro e w2 ⟨A2, c2, rfl, hr2, hb⟩)
      | (refine step_copy_splice rfl (.tmp 17) (.tmp 21) 40 40 rfl 5 Try.underlying40 size8 _ _ _ _ _ _ rfl rfl M 5 (xs1.map cellOf) 90 (HA.out.keepd hb) ((Wire.fx (lo).toNat).map cellOf) rfl (src_ok (by omega) hr2) (by rw [fx_cells, List.length_map, HXL.out]; omega) (cells_one _) M X (below_ond HBM.out (Nat.le_of_lt HA.out.lt) hb) (Nat.le_refl _) ?_; intro w3 hg3 hb3))
  obtain ⟨xs2, hxs2⟩ : ∃ ys, ys = over xs1 5 (Wire.fx (lo).toNat) := ⟨_, rfl⟩
  replace HA := Lib.hid (show Arr w3 M 90 xs2 by rw [hxs2]; exact Arr.of_copy hg3)
  replace HXL := Lib.hid (show xs2.length = 29 by rw [hxs2, over_len (by rw [fx_len, HXL.out]; omega)]; exact HXL.out)
  have Hxs2 := Lib.hid hxs2
  replace HBM := Lib.hid hb3
  clear hr2 hb hg3 hb3 hxs2
  go_wp2
  go_region_held3 (fun w' => w'.cell? ⟨w.heap.size, 2, none⟩ = some (.int .i64 s)) (first | exact (HBM.out.cell (p := ⟨w.heap.size, 2, none⟩) hGm).trans hc2 | exact (hb3.cell (p := ⟨w.heap.size, 2, none⟩) hGm).trans hc2 | exact cell_stays hb (by assumption))
    (first
      | (go_at_call 52; refine (fixed_is hi _ hhi0 hhi1).mono ?_; rintro e w2 ⟨A2, c2, rfl, hr2, hb⟩)
      | (refine step_copy_splice rfl (.tmp 23) (.tmp 28) 40 40 rfl 5 Try.underlying40 size8 _ _ _ _ _ _ rfl rfl M 9 (xs2.map cellOf) 90 (HA.out.keepd hb) ((Wire.fx (hi).toNat).map cellOf) rfl (src_ok (by omega) hr2) (by rw [fx_cells, List.length_map, HXL.out]; omega) (cells_one _) M X (below_ond HBM.out (Nat.le_of_lt HA.out.lt) hb) (Nat.le_refl _) ?_; intro w3 hg3 hb3))
  obtain ⟨xs3, hxs3⟩ : ∃ ys, ys = over xs2 9 (Wire.fx (hi).toNat) := ⟨_, rfl⟩
  replace HA := Lib.hid (show Arr w3 M 90 xs3 by rw [hxs3]; exact Arr.of_copy hg3)
  replace HXL := Lib.hid (show xs3.length = 29 by rw [hxs3, over_len (by rw [fx_len, HXL.out]; omega)]; exact HXL.out)
  have Hxs3 := Lib.hid hxs3
  replace HBM := Lib.hid hb3
  clear hr2 hb hg3 hb3 hxs3
  have hdl : d.length = 16 := HR.out.1
  have HDL := Lib.hid (show (d.map cellOf).length = Nat.min 16 16 by rw [List.length_map, hdl]; rfl)
  have HDF := Lib.hid (show 13 + (d.map cellOf).length ≤ (xs3.map cellOf).length by rw [List.length_map, List.length_map, hdl, HXL.out]; omega)
  have HRd := Lib.hid (show Bytes w3 w3.heap.size A 16 d from bytes_more (bytes_keep HR.out (HB.out.trans (HBM.out.mono (Nat.le_of_lt hGm)))) (Nat.le_trans HB.out.size HBM.out.size))
  obtain ⟨m, hm⟩ : ∃ m, m = Oob.front k l s ++ d := ⟨_, rfl⟩
  have HM : Hid (m = over xs3 13 d) := Lib.hid (by
    rw [hm, Hxs3.out, Hxs2.out, Hxs1.out, HXS.out, HLO.out, HHI.out]
    exact (front_over k l s d hdl).symm)
  have HMF := Lib.hid hm
  have HML := Lib.hid (show m.length = 29 by rw [hm, List.length_append, Oob.front_len, hdl])
  clear hm hdl
  go_wp2_with (refine wpList_copy_splice rfl _ _ _ _ rfl 5 Try.underlying40 size8 _ _ _ _ _ _ rfl rfl M 13 (xs3.map cellOf) 90 HA.out (d.map cellOf) HDL.out (src_ok (by omega) HRd.out) HDF.out (cells_one _) M X HBM.out (Nat.le_refl _) ?_)
  intro w4 hg4 hb4
  replace HA := Lib.hid (show Arr w4 M 90 m by rw [HM.out]; exact Arr.of_copy hg4)
  replace HBM := Lib.hid hb4
  clear hg4 hb4 HRd HDL HDF HM Hxs1 Hxs2 Hxs3 HXS HXL hc1 hc2 hwl hwlo hwhi2 hlo0 hlo1 hhi0 hhi1 hl0 hl1 HLO HHI
  go_wp2
  refine at_world ?_
  intro Y hY
  have HC : Arr Y w4.heap.size 70 (List.replicate 17 0) := by
    have h := Arr.new w4 70 (List.replicate 17 0)
    rw [hY]
    simpa [cellOf, List.replicate] using h
  have hMC : M < w4.heap.size := HA.out.lt
  replace HA := Lib.hid (show Arr Y M 90 m by rw [hY]; exact HA.out.old _)
  replace HZ := Lib.hid (show Arr Y R 70 (List.replicate 17 0) by rw [hY]; exact Arr.old ((HBM.out.block R hRm).trans HZ.out) _)
  replace HBM := Lib.hid (show Below w.heap.size w Y by rw [hY]; exact (HB.out.trans (HBM.out.mono (Nat.le_of_lt hGm))).alloc (by omega) _)
  clear hY
  obtain ⟨C, hC⟩ : ∃ C, C = w4.heap.size := ⟨_, rfl⟩
  rw [← hC] at hMC HC ⊢
  clear hC HB
  replace HC := Lib.hid HC
  have hcl : (m.take 13).length = 13 := by rw [List.length_take, HML.out]; rfl
  have HCL := Lib.hid (show ((m.take 13).map cellOf).length = Nat.min 29 13 by rw [List.length_map, hcl]; rfl)
  have HCF := Lib.hid (show 0 + ((m.take 13).map cellOf).length ≤ ((List.replicate 17 (0 : UInt8)).map cellOf).length by rw [List.length_map, hcl]; simp)
  have HSRC : Hid (0 < ((m.take 13).map cellOf).length → (some ⟨C, 0, none⟩ : Option Addr) = some ⟨C, 0, none⟩ ∧ ∃ ad, (some ⟨M, 0, none⟩ : Option Addr) = some ad ∧ ∀ j v, ((m.take 13).map cellOf)[j]? = some v → Y.drew.cell? (ad.add j) = some v) := Lib.hid (src_arr HA.out 13)
  go_region_held3 (fun _ => True) (trivial)
    (first | (refine step_copy_splice rfl (.tmp 33) (.tmp 34) 40 40 rfl 5 Try.underlying40 size8 _ _ _ _ _ _ rfl rfl C 0 ((List.replicate 17 (0 : UInt8)).map cellOf) 70 HC.out ((m.take 13).map cellOf) HCL.out HSRC.out HCF.out (cells_one _) C Y (Below.refl C Y).drew (Nat.le_refl _) ?_; intro w5 hg5 hb5))
  obtain ⟨q, hq⟩ : ∃ q, q = over (List.replicate 17 0) 0 (m.take 13) := ⟨_, rfl⟩
  replace HC := Lib.hid (show Arr w5 C 70 q by rw [hq]; exact Arr.of_copy hg5)
  have HQ := Lib.hid hq
  have hql : q.length = 17 := by rw [hq, over_len (by rw [hcl]; simp)]; rfl
  have HQL := Lib.hid hql
  have HB5 := Lib.hid hb5
  clear hq hql hcl HCL HCF HSRC hg5 hb5
  go_wp2
  replace HA := Lib.hid (show Arr w5 M 90 m from (HB5.out.block M hMC).trans HA.out)
  replace HZ := Lib.hid (show Arr w5 R 70 (List.replicate 17 0) from (HB5.out.block R (Nat.lt_trans hRm hMC)).trans HZ.out)
  obtain ⟨sm, hsm⟩ : ∃ sm : Int, sm = (Oob.sumN m : Int) := ⟨_, rfl⟩
  have hsm0 : 0 ≤ sm := by omega
  have hsm1 : sm ≤ 4294967295 := by have := Oob.sumN_lt m; omega
  have hs := sum_arr (w := w5.drew) HA.out HML.out
  rw [← hsm] at hs
  have HS := Lib.hid hs
  have HSM := Lib.hid hsm
  clear hs hsm
  go_region_held3 (fun _ => True) (trivial)
    (first
      | (go_at_call 53; refine HS.out.mono ?_; rintro e w6 ⟨rfl, hw⟩; subst w6)
      | (go_at_call 52; refine (fixed_is sm _ hsm0 hsm1).mono ?_; rintro e w6 ⟨A6, c6, rfl, hr6, hb⟩)
      | (refine step_copy_splice rfl (.tmp 36) (.tmp 39) 40 40 rfl 5 Try.underlying40 size8 _ _ _ _ _ _ rfl rfl C 13 (q.map cellOf) 70 (HC.out.keepd hb) ((Wire.fx sm.toNat).map cellOf) rfl (src_ok (by omega) hr6) (by rw [fx_cells, List.length_map, HQL.out]; omega) (cells_one _) C Y (below_ond HB5.out (Nat.le_of_lt HC.out.lt) hb) (Nat.le_refl _) ?_; intro w7 hg7 hb7))
  obtain ⟨u, hu⟩ : ∃ u, u = Oob.full k l s d := ⟨_, rfl⟩
  have HU : Hid (Arr w7 C 70 u) := Lib.hid (by
    have h := Arr.of_copy hg7
    have e : over q 13 (Wire.fx sm.toNat) = u := by
      rw [hu, HQ.out, HSM.out, Int.toNat_natCast, HMF.out]
      exact full_over k l s d
    rwa [e] at h)
  have hul : u.length = 17 := by rw [hu]; exact Oob.full_len ..
  obtain ⟨U, hU⟩ : ∃ U, U = (u.map cellOf).toArray := ⟨_, rfl⟩
  have hld := run_load_arr (P := Try.prog) HU.out hul
  rw [← hU] at hld
  have hUs : U.size = 17 := by rw [hU]; simpa using hul
  have hz7 : Arr w7 R 70 (List.replicate 17 0) := (hb7.block R (Nat.lt_trans hRm hMC)).trans ((HB5.out.block R (Nat.lt_trans hRm hMC)).symm.trans HZ.out)
  obtain ⟨w8, hst, ha8, hb8⟩ := run_store_arr (P := Try.prog) (ys := u) hz7 (by rw [hul]; rfl)
  rw [← hU] at hst
  have hld8 := run_load_arr (P := Try.prog) ha8 hul
  rw [← hU] at hld8
  have HEND := Lib.hid (show Ending.returned (.agg U) = .returned (.agg ((Oob.full k l s d).map cellOf).toArray) ∧ Below w.heap.size w w8 from
    ⟨by rw [hU, hu], (HBM.out.trans (hb7.mono (by omega))).trans (hb8.mono (by omega))⟩)
  clear hU hul hg7 hr6 hb hu hz7 ha8 hb8
  go_wp2
  refine bodyPost_ret (v := .agg U) ?_ rfl HEND.out
  simp [results, Try.results37, go_sem, hld8]

end Go.Proofs.Yteonjdigcecceaa.OobPkg
