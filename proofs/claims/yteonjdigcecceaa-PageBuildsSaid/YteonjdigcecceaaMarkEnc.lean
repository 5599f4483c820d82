/-
  What each function of package mark does, the third part: encode.
-/
import Derived.Test.YteonjdigcecceaaMarkDec
namespace Go.Proofs.Yteonjdigcecceaa.MarkPkg
open Go.RowKit Go.Proofs.Yteonjdigcecceaa.OobPkg
set_option maxRecDepth 4000
attribute [-go_sem] loadCellsFrom storeCells

theorem code_over (l r s : Int) :
    over (over (over (72 :: 76 :: UInt8.ofNat l.toNat :: Mark.letter r :: List.replicate 12 0) 4 (Wire.fx r.toNat)) 8 (Wire.fx (s % 4294967296).toNat)) 12 (Wire.fx (s / 4294967296).toNat) = Mark.code l r s := by
  simp [over, Wire.fx, Mark.code, List.replicate]

set_option maxHeartbeats 2000000 in
theorem encode_any (l r s : Int) (w : World) (hok : Mark.Ok l r s) :
    Calls Try.prog 46 #[tri l r s] w fun e w' => e = .returned (.agg ((Mark.code l r s).map cellOf).toArray) ∧ Below w.heap.size w w' := by
  have HOK := Lib.hid hok
  clear hok
  go_enter Try.func46, Try.ntmps46
  go_wp2
  refine at_world ?_
  intro X hX
  have HT := Lib.hid (show Three 33 X w.heap.size l r s by rw [hX]; exact (Three.new 33 w l r s).old _)
  have HZ := Lib.hid (show Arr X (w.heap.size + 1) 81 (List.replicate 16 0) by
    have h := Arr.new (w.alloc (.cells #[.int .i64 l, .int .i64 r, .int .i64 s] 33)) 81 (List.replicate 16 0)
    rw [World.size_alloc] at h
    rw [hX]
    exact h)
  have HB := Lib.hid (show Below w.heap.size w X by rw [hX]; exact ((Below.refl w.heap.size w).alloc (Nat.le_refl _) _).alloc (by simp) _)
  clear hX
  have hGR : w.heap.size < w.heap.size + 1 := by omega
  obtain ⟨R, hR⟩ : ∃ R, R = w.heap.size + 1 := ⟨_, rfl⟩
  rw [← hR] at HZ hGR ⊢
  clear hR
  have hRX : R < X.heap.size := HZ.out.lt
  have hr0 : 0 ≤ r := HOK.out.2.2.1
  obtain ⟨y, hy⟩ : ∃ y : Int, y = ((UInt8.ofNat l.toNat).toNat : Int) := ⟨_, rfl⟩
  obtain ⟨z, hz⟩ : ∃ z : Int, z = ((Mark.letter r).toNat : Int) := ⟨_, rfl⟩
  have hwl : IntKind.u8.wrap l = y := by have := HOK.out; unfold Mark.Ok at this; rw [IntKind.wrap_u8, hy, UInt8.toNat_ofNat']; omega
  have hlt := fun w => letter_any r w hr0
  rw [← hz] at hlt
  have HLT := Lib.hid hlt
  obtain ⟨xs, hxs⟩ : ∃ xs, xs = 72 :: 76 :: UInt8.ofNat l.toNat :: Mark.letter r :: List.replicate 12 0 := ⟨_, rfl⟩
  have hst : ∀ (w2 : World) (M : Nat), Arr w2 M 81 (List.replicate 16 0) → ∃ w', (storeCells ⟨M, 0, none⟩ [.int .u8 72, .int .u8 76, .int .u8 y, .int .u8 z, .int .u8 0, .int .u8 0, .int .u8 0, .int .u8 0, .int .u8 0, .int .u8 0, .int .u8 0, .int .u8 0, .int .u8 0, .int .u8 0, .int .u8 0, .int .u8 0]).run Try.prog w2 = .ok () w' ∧ Arr w' M 81 xs ∧ Below M w2 w' := by
    intro w2 M ha
    obtain ⟨w', h1, h2, h3⟩ := run_store_arr (P := Try.prog) (ys := xs) ha (by rw [hxs]; rfl)
    refine ⟨w', ?_, h2, h3⟩
    rw [hxs] at h1
    rw [hy, hz]
    exact h1
  have HST := Lib.hid hst
  have HXS := Lib.hid hxs
  clear hy hz hlt hst hxs
  refine wp_region_held_drew (S := (fun w' => w'.cell? ⟨w.heap.size, 0, none⟩ = some (.int .i64 l) ∧ w'.cell? ⟨w.heap.size, 1, none⟩ = some (.int .i64 r))) (by kernel_rfl) ?_ (fun hHeld => ?_)
  · exact ⟨HT.out.drew.c0, HT.out.drew.c1⟩
  refine Hand.held_take (i := 0) (d := 4) (v := ?_) rfl rfl (by kernel_rfl) (by kernel_rfl) (by kernel_rfl) (by rfl) ?_ (by assumption) (fun _ _ _ h => h) ?_
  rotate_left
  · intro w hSw
    go_simp
    with_reducible rfl
  try simp only [Act.put, List.setIfInBounds_toArray, List.set_cons_zero, List.set_cons_succ]
  refine Hand.held_take (i := 1) (d := 5) (v := ?_) rfl rfl (by kernel_rfl) (by kernel_rfl) (by kernel_rfl) (by rfl) ?_ (by assumption) (fun _ _ _ h => h) ?_
  rotate_left
  · intro w hSw
    go_simp
    with_reducible rfl
  try simp only [Act.put, List.setIfInBounds_toArray, List.set_cons_zero, List.set_cons_succ]
  refine Hand.held_take (i := 2) (d := 6) (v := ?_) rfl rfl (by kernel_rfl) (by kernel_rfl) (by kernel_rfl) (by rfl) ?_ (by assumption) (fun _ _ _ h => h) ?_
  rotate_left
  · intro w hSw
    go_simp
    with_reducible rfl
  try simp only [Act.put, List.setIfInBounds_toArray, List.set_cons_zero, List.set_cons_succ]
  refine Hand.held_take (i := 3) (d := 7) (v := ?_) rfl rfl (by kernel_rfl) (by kernel_rfl) (by kernel_rfl) (by rfl) ?_ (by assumption) (fun _ _ _ h => h) ?_
  rotate_left
  · intro w hSw
    go_simp
    with_reducible rfl
  try simp only [Act.put, List.setIfInBounds_toArray, List.set_cons_zero, List.set_cons_succ]
  refine Hand.held_take (i := 4) (d := 8) (v := ?_) rfl rfl (by kernel_rfl) (by kernel_rfl) (by kernel_rfl) (by rfl) ?_ (by assumption) (fun _ _ _ h => h) ?_
  rotate_left
  · intro w hSw
    go_simp
    with_reducible rfl
  try simp only [Act.put, List.setIfInBounds_toArray, List.set_cons_zero, List.set_cons_succ]
  refine wpAnyH_ready (rs := [5, 7]) (by kernel_rfl) (by simp) ?_
  refine AllReadyH.cons rfl (fun K hK => ?_) (AllReadyH.cons rfl (fun K hK => ?_) AllReadyH.nil)
  · go_simp
    go_wp2_with (go_at_call 55; refine (HLT.out _).mono ?_; rintro e w2 ⟨rfl, hb⟩)
    replace HT := Lib.hid (HT.out.keepd hb)
    replace HZ := Lib.hid (HZ.out.keepd hb)
    replace HB := Lib.hid (below_on HB.out.drew hb)
    refine hK.out _ _ ?_ (fun hHeld => ?_)
    · exact ⟨HT.out.c0, HT.out.c1⟩
    clear hK K hb
    refine Hand.held_take (i := 6) (d := 10) (v := ?_) rfl rfl (by kernel_rfl) (by kernel_rfl) (by kernel_rfl) (by rfl) ?_ (by assumption) (fun _ _ _ h => h) ?_
    rotate_left
    · intro w hSw
      go_simp
      with_reducible rfl
    try simp only [Act.put, List.setIfInBounds_toArray, List.set_cons_zero, List.set_cons_succ]
    have HA := Lib.hid (show Arr (w2.alloc (.cells #[.int .u8 0, .int .u8 0, .int .u8 0, .int .u8 0, .int .u8 0, .int .u8 0, .int .u8 0, .int .u8 0, .int .u8 0, .int .u8 0, .int .u8 0, .int .u8 0, .int .u8 0, .int .u8 0, .int .u8 0, .int .u8 0] 81)) w2.heap.size 81 (List.replicate 16 0) from Arr.new w2 81 (List.replicate 16 0))
    have hRm : R < w2.heap.size := HZ.out.lt
    replace HT := Lib.hid (HT.out.old (.cells #[.int .u8 0, .int .u8 0, .int .u8 0, .int .u8 0, .int .u8 0, .int .u8 0, .int .u8 0, .int .u8 0, .int .u8 0, .int .u8 0, .int .u8 0, .int .u8 0, .int .u8 0, .int .u8 0, .int .u8 0, .int .u8 0] 81))
    replace HZ := Lib.hid (HZ.out.old (.cells #[.int .u8 0, .int .u8 0, .int .u8 0, .int .u8 0, .int .u8 0, .int .u8 0, .int .u8 0, .int .u8 0, .int .u8 0, .int .u8 0, .int .u8 0, .int .u8 0, .int .u8 0, .int .u8 0, .int .u8 0, .int .u8 0] 81))
    replace HB := Lib.hid (HB.out.alloc HB.out.size (.cells #[.int .u8 0, .int .u8 0, .int .u8 0, .int .u8 0, .int .u8 0, .int .u8 0, .int .u8 0, .int .u8 0, .int .u8 0, .int .u8 0, .int .u8 0, .int .u8 0, .int .u8 0, .int .u8 0, .int .u8 0, .int .u8 0] 81))
    refine wpAnyH_ready (rs := [7]) (by kernel_rfl) (by simp) ?_
    refine AllReadyH.cons rfl (fun K hK => ?_) AllReadyH.nil
    go_simp
    refine hK.out _ _ ?_ (fun hHeld => ?_)
    · exact ⟨HT.out.c0, HT.out.c1⟩
    clear hK K
    generalize w2.alloc (.cells #[.int .u8 0, .int .u8 0, .int .u8 0, .int .u8 0, .int .u8 0, .int .u8 0, .int .u8 0, .int .u8 0, .int .u8 0, .int .u8 0, .int .u8 0, .int .u8 0, .int .u8 0, .int .u8 0, .int .u8 0, .int .u8 0] 81) = X2 at HA HT HZ HB hHeld ⊢
    generalize w2.heap.size = M at HA hRm ⊢
    obtain ⟨X0, hst, ha4, hb4⟩ := HST.out _ _ HA.out
    replace HT := Lib.hid (HT.out.under hb4 (Nat.lt_trans hGR hRm))
    replace HZ := Lib.hid (show Arr X0 R 81 (List.replicate 16 0) from (hb4.block R hRm).trans HZ.out)
    replace HB := Lib.hid (HB.out.trans (hb4.mono (Nat.le_of_lt (Nat.lt_trans hGR hRm))))
    replace HA := Lib.hid ha4
    clear ha4 hb4
    refine wpAnyH_ready (rs := [8]) (by kernel_rfl) (by simp) ?_
    refine AllReadyH.cons rfl (fun K hK => ?_) AllReadyH.nil
    go_simp
    refine hK.out _ _ ?_ (fun hHeld => ?_)
    · exact ⟨HT.out.c0, HT.out.c1⟩
    clear hK K
    refine wpAnyH_done (by kernel_rfl) ?_ _
    clear hst hHeld
    have hc1 := HT.out.c1
    have hc2 := HT.out.c2
    have HXL := Lib.hid (show xs.length = 16 by rw [HXS.out]; rfl)
    have hGm : w.heap.size < M := Nat.lt_trans hGR hRm
    have hwr : IntKind.u32.wrap r = r := by have := HOK.out; unfold Mark.Ok at this; rw [IntKind.wrap_u32]; omega
    have hr1 : r ≤ 4294967295 := by have := HOK.out.2.2.2.1; omega
    obtain ⟨lo, hlo⟩ : ∃ lo, lo = s % 4294967296 := ⟨_, rfl⟩
    obtain ⟨hi, hhi⟩ : ∃ hi, hi = s / 4294967296 := ⟨_, rfl⟩
    have hwlo : IntKind.u32.wrap s = lo := by rw [hlo, IntKind.wrap_u32]
    have hwhi : IntKind.u32.wrap hi = hi := by have := HOK.out; unfold Mark.Ok at this; rw [IntKind.wrap_u32]; omega
    have hlo0 : 0 ≤ lo := by omega
    have hlo1 : lo ≤ 4294967295 := by omega
    have hhi0 : 0 ≤ hi := by have := HOK.out; unfold Mark.Ok at this; omega
    have hhi1 : hi ≤ 4294967295 := by have := HOK.out; unfold Mark.Ok at this; omega
    have HLO := Lib.hid hlo
    have HHI := Lib.hid hhi
    clear hlo
    rw [hhi] at hwhi
    have hwhi2 : IntKind.u32.wrap (s / 4294967296) = hi := by rw [hwhi, hhi]
    clear hwhi hhi
    have HBM := Lib.hid (Below.refl M X0)
    clear HST HLT hwl
    go_wp2
    go_region_held3 (fun w' => w'.cell? ⟨w.heap.size, 1, none⟩ = some (.int .i64 r)) (first | exact (HBM.out.cell (p := ⟨w.heap.size, 1, none⟩) hGm).trans hc1 | exact (hb3.cell (p := ⟨w.heap.size, 1, none⟩) hGm).trans hc1 | exact cell_stays hb (by assumption))
      (first
        | (go_at_call 52; refine (fixed_is r _ hr0 hr1).mono ?_; rintro e w2 ⟨A2, c2, rfl, hr2, hb⟩)
        | (refine step_copy_splice rfl (.tmp 11) (.tmp 15) 40 40 rfl 5 Try.underlying40 size8 _ _ _ _ _ _ rfl rfl M 4 (xs.map cellOf) 81 (HA.out.keepd hb) ((Wire.fx (r).toNat).map cellOf) rfl (src_ok (by omega) hr2) (by rw [fx_cells, List.length_map, HXL.out]; omega) (cells_one _) M X0 (below_ond HBM.out (Nat.le_of_lt HA.out.lt) hb) (Nat.le_refl _) ?_; intro w3 hg3 hb3))
    obtain ⟨xs1, hxs1⟩ : ∃ ys, ys = over xs 4 (Wire.fx (r).toNat) := ⟨_, rfl⟩
    replace HA := Lib.hid (show Arr w3 M 81 xs1 by rw [hxs1]; exact Arr.of_copy hg3)
    replace HXL := Lib.hid (show xs1.length = 16 by rw [hxs1, over_len (by rw [fx_len, HXL.out]; omega)]; exact HXL.out)
    have Hxs1 := Lib.hid hxs1
    replace HBM := Lib.hid hb3
    clear hr2 hb hg3 hb3 hxs1
    go_wp2
    go_region_held3 (fun w' => w'.cell? ⟨w.heap.size, 2, none⟩ = some (.int .i64 s)) (first | exact (HBM.out.cell (p := ⟨w.heap.size, 2, none⟩) hGm).trans hc2 | exact (hb3.cell (p := ⟨w.heap.size, 2, none⟩) hGm).trans hc2 | exact cell_stays hb (by assumption))
      (first
        | (go_at_call 52; refine (fixed_is lo _ hlo0 hlo1).mono ?_; rintro e w2 ⟨A2, c2, rfl, hr2, hb⟩)
        | (refine step_copy_splice rfl (.tmp 17) (.tmp 21) 40 40 rfl 5 Try.underlying40 size8 _ _ _ _ _ _ rfl rfl M 8 (xs1.map cellOf) 81 (HA.out.keepd hb) ((Wire.fx (lo).toNat).map cellOf) rfl (src_ok (by omega) hr2) (by rw [fx_cells, List.length_map, HXL.out]; omega) (cells_one _) M X0 (below_ond HBM.out (Nat.le_of_lt HA.out.lt) hb) (Nat.le_refl _) ?_; intro w3 hg3 hb3))
    obtain ⟨xs2, hxs2⟩ : ∃ ys, ys = over xs1 8 (Wire.fx (lo).toNat) := ⟨_, rfl⟩
    replace HA := Lib.hid (show Arr w3 M 81 xs2 by rw [hxs2]; exact Arr.of_copy hg3)
    replace HXL := Lib.hid (show xs2.length = 16 by rw [hxs2, over_len (by rw [fx_len, HXL.out]; omega)]; exact HXL.out)
    have Hxs2 := Lib.hid hxs2
    replace HBM := Lib.hid hb3
    clear hr2 hb hg3 hb3 hxs2
    go_wp2
    go_region_held3 (fun w' => w'.cell? ⟨w.heap.size, 2, none⟩ = some (.int .i64 s)) (first | exact (HBM.out.cell (p := ⟨w.heap.size, 2, none⟩) hGm).trans hc2 | exact (hb3.cell (p := ⟨w.heap.size, 2, none⟩) hGm).trans hc2 | exact cell_stays hb (by assumption))
      (first
        | (go_at_call 52; refine (fixed_is hi _ hhi0 hhi1).mono ?_; rintro e w2 ⟨A2, c2, rfl, hr2, hb⟩)
        | (refine step_copy_splice rfl (.tmp 23) (.tmp 28) 40 40 rfl 5 Try.underlying40 size8 _ _ _ _ _ _ rfl rfl M 12 (xs2.map cellOf) 81 (HA.out.keepd hb) ((Wire.fx (hi).toNat).map cellOf) rfl (src_ok (by omega) hr2) (by rw [fx_cells, List.length_map, HXL.out]; omega) (cells_one _) M X0 (below_ond HBM.out (Nat.le_of_lt HA.out.lt) hb) (Nat.le_refl _) ?_; intro w3 hg3 hb3))
    obtain ⟨xs3, hxs3⟩ : ∃ ys, ys = over xs2 12 (Wire.fx (hi).toNat) := ⟨_, rfl⟩
    replace HA := Lib.hid (show Arr w3 M 81 xs3 by rw [hxs3]; exact Arr.of_copy hg3)
    replace HXL := Lib.hid (show xs3.length = 16 by rw [hxs3, over_len (by rw [fx_len, HXL.out]; omega)]; exact HXL.out)
    have Hxs3 := Lib.hid hxs3
    replace HBM := Lib.hid hb3
    clear hr2 hb hg3 hb3 hxs3
    obtain ⟨u, hu⟩ : ∃ u, u = Mark.code l r s := ⟨_, rfl⟩
    have HU : Hid (Arr w3 M 81 u) := Lib.hid (by
      have h := HA.out
      rw [Hxs3.out, Hxs2.out, Hxs1.out, HXS.out, HLO.out, HHI.out, code_over, ← hu] at h
      exact h)
    have hul : u.length = 16 := by rw [hu]; exact Mark.code_len ..
    obtain ⟨U, hU⟩ : ∃ U, U = (u.map cellOf).toArray := ⟨_, rfl⟩
    have hld := run_load_arr (P := Try.prog) HU.out hul
    rw [← hU] at hld
    have hUs : U.size = 16 := by rw [hU]; simpa using hul
    have hz7 : Arr w3 R 81 (List.replicate 16 0) := (HBM.out.block R hRm).trans HZ.out
    obtain ⟨w8, hst, ha8, hb8⟩ := run_store_arr (P := Try.prog) (ys := u) hz7 (by rw [hul]; rfl)
    rw [← hU] at hst
    have hld8 := run_load_arr (P := Try.prog) ha8 hul
    rw [← hU] at hld8
    have HEND := Lib.hid (show Ending.returned (.agg U) = .returned (.agg ((Mark.code l r s).map cellOf).toArray) ∧ Below w.heap.size w w8 from
      ⟨by rw [hU, hu], (HB.out.trans (HBM.out.mono (Nat.le_of_lt hGm))).trans (hb8.mono (Nat.le_of_lt hGR))⟩)
    clear hU hul hu hz7 ha8 hb8
    go_wp2
    refine bodyPost_ret (v := .agg U) ?_ rfl HEND.out
    simp [results, Try.results46, go_sem, hld8]
  · have HA := Lib.hid (show Arr (X.alloc (.cells #[.int .u8 0, .int .u8 0, .int .u8 0, .int .u8 0, .int .u8 0, .int .u8 0, .int .u8 0, .int .u8 0, .int .u8 0, .int .u8 0, .int .u8 0, .int .u8 0, .int .u8 0, .int .u8 0, .int .u8 0, .int .u8 0] 81)) X.heap.size 81 (List.replicate 16 0) from Arr.new X 81 (List.replicate 16 0))
    have hRm : R < X.heap.size := HZ.out.lt
    replace HT := Lib.hid (HT.out.old (.cells #[.int .u8 0, .int .u8 0, .int .u8 0, .int .u8 0, .int .u8 0, .int .u8 0, .int .u8 0, .int .u8 0, .int .u8 0, .int .u8 0, .int .u8 0, .int .u8 0, .int .u8 0, .int .u8 0, .int .u8 0, .int .u8 0] 81))
    replace HZ := Lib.hid (HZ.out.old (.cells #[.int .u8 0, .int .u8 0, .int .u8 0, .int .u8 0, .int .u8 0, .int .u8 0, .int .u8 0, .int .u8 0, .int .u8 0, .int .u8 0, .int .u8 0, .int .u8 0, .int .u8 0, .int .u8 0, .int .u8 0, .int .u8 0] 81))
    replace HB := Lib.hid (HB.out.alloc HB.out.size (.cells #[.int .u8 0, .int .u8 0, .int .u8 0, .int .u8 0, .int .u8 0, .int .u8 0, .int .u8 0, .int .u8 0, .int .u8 0, .int .u8 0, .int .u8 0, .int .u8 0, .int .u8 0, .int .u8 0, .int .u8 0, .int .u8 0] 81))
    go_simp
    refine hK.out _ _ ?_ (fun hHeld => ?_)
    · exact ⟨HT.out.drew.c0, HT.out.drew.c1⟩
    clear hK K
    generalize X.alloc (.cells #[.int .u8 0, .int .u8 0, .int .u8 0, .int .u8 0, .int .u8 0, .int .u8 0, .int .u8 0, .int .u8 0, .int .u8 0, .int .u8 0, .int .u8 0, .int .u8 0, .int .u8 0, .int .u8 0, .int .u8 0, .int .u8 0] 81) = X2 at HA HT HZ HB hHeld ⊢
    clear hRX
    generalize X.heap.size = M at HA hRm ⊢
    refine wpAnyH_ready (rs := [5]) (by kernel_rfl) (by simp) ?_
    refine AllReadyH.cons rfl (fun K hK => ?_) AllReadyH.nil
    go_simp
    go_wp2_with (go_at_call 55; refine (HLT.out _).mono ?_; rintro e w2 ⟨rfl, hb⟩; replace HT := Lib.hid (HT.out.keepd hb); replace HZ := Lib.hid (HZ.out.keepd hb); replace HA := Lib.hid (HA.out.keepd hb); replace HB := Lib.hid (below_on HB.out.drew hb); clear hb)
    refine hK.out _ _ ?_ (fun hHeld => ?_)
    · exact ⟨HT.out.c0, HT.out.c1⟩
    clear hK K
    refine Hand.held_take (i := 6) (d := 10) (v := ?_) rfl rfl (by kernel_rfl) (by kernel_rfl) (by kernel_rfl) (by rfl) ?_ (by assumption) (fun _ _ _ h => h) ?_
    rotate_left
    · intro w hSw
      go_simp
      with_reducible rfl
    try simp only [Act.put, List.setIfInBounds_toArray, List.set_cons_zero, List.set_cons_succ]
    obtain ⟨X0, hst, ha4, hb4⟩ := HST.out _ _ HA.out
    replace HT := Lib.hid (HT.out.under hb4 (Nat.lt_trans hGR hRm))
    replace HZ := Lib.hid (show Arr X0 R 81 (List.replicate 16 0) from (hb4.block R hRm).trans HZ.out)
    replace HB := Lib.hid (HB.out.trans (hb4.mono (Nat.le_of_lt (Nat.lt_trans hGR hRm))))
    replace HA := Lib.hid ha4
    clear ha4 hb4
    refine wpAnyH_ready (rs := [8]) (by kernel_rfl) (by simp) ?_
    refine AllReadyH.cons rfl (fun K hK => ?_) AllReadyH.nil
    go_simp
    refine hK.out _ _ ?_ (fun hHeld => ?_)
    · exact ⟨HT.out.c0, HT.out.c1⟩
    clear hK K
    refine wpAnyH_done (by kernel_rfl) ?_ _
    clear hst hHeld
    have hc1 := HT.out.c1
    have hc2 := HT.out.c2
    have HXL := Lib.hid (show xs.length = 16 by rw [HXS.out]; rfl)
    have hGm : w.heap.size < M := Nat.lt_trans hGR hRm
    have hwr : IntKind.u32.wrap r = r := by have := HOK.out; unfold Mark.Ok at this; rw [IntKind.wrap_u32]; omega
    have hr1 : r ≤ 4294967295 := by have := HOK.out.2.2.2.1; omega
    obtain ⟨lo, hlo⟩ : ∃ lo, lo = s % 4294967296 := ⟨_, rfl⟩
    obtain ⟨hi, hhi⟩ : ∃ hi, hi = s / 4294967296 := ⟨_, rfl⟩
    have hwlo : IntKind.u32.wrap s = lo := by rw [hlo, IntKind.wrap_u32]
    have hwhi : IntKind.u32.wrap hi = hi := by have := HOK.out; unfold Mark.Ok at this; rw [IntKind.wrap_u32]; omega
    have hlo0 : 0 ≤ lo := by omega
    have hlo1 : lo ≤ 4294967295 := by omega
    have hhi0 : 0 ≤ hi := by have := HOK.out; unfold Mark.Ok at this; omega
    have hhi1 : hi ≤ 4294967295 := by have := HOK.out; unfold Mark.Ok at this; omega
    have HLO := Lib.hid hlo
    have HHI := Lib.hid hhi
    clear hlo
    rw [hhi] at hwhi
    have hwhi2 : IntKind.u32.wrap (s / 4294967296) = hi := by rw [hwhi, hhi]
    clear hwhi hhi
    have HBM := Lib.hid (Below.refl M X0)
    clear HST HLT hwl
    go_wp2
    go_region_held3 (fun w' => w'.cell? ⟨w.heap.size, 1, none⟩ = some (.int .i64 r)) (first | exact (HBM.out.cell (p := ⟨w.heap.size, 1, none⟩) hGm).trans hc1 | exact (hb3.cell (p := ⟨w.heap.size, 1, none⟩) hGm).trans hc1 | exact cell_stays hb (by assumption))
      (first
        | (go_at_call 52; refine (fixed_is r _ hr0 hr1).mono ?_; rintro e w2 ⟨A2, c2, rfl, hr2, hb⟩)
        | (refine step_copy_splice rfl (.tmp 11) (.tmp 15) 40 40 rfl 5 Try.underlying40 size8 _ _ _ _ _ _ rfl rfl M 4 (xs.map cellOf) 81 (HA.out.keepd hb) ((Wire.fx (r).toNat).map cellOf) rfl (src_ok (by omega) hr2) (by rw [fx_cells, List.length_map, HXL.out]; omega) (cells_one _) M X0 (below_ond HBM.out (Nat.le_of_lt HA.out.lt) hb) (Nat.le_refl _) ?_; intro w3 hg3 hb3))
    obtain ⟨xs1, hxs1⟩ : ∃ ys, ys = over xs 4 (Wire.fx (r).toNat) := ⟨_, rfl⟩
    replace HA := Lib.hid (show Arr w3 M 81 xs1 by rw [hxs1]; exact Arr.of_copy hg3)
    replace HXL := Lib.hid (show xs1.length = 16 by rw [hxs1, over_len (by rw [fx_len, HXL.out]; omega)]; exact HXL.out)
    have Hxs1 := Lib.hid hxs1
    replace HBM := Lib.hid hb3
    clear hr2 hb hg3 hb3 hxs1
    go_wp2
    go_region_held3 (fun w' => w'.cell? ⟨w.heap.size, 2, none⟩ = some (.int .i64 s)) (first | exact (HBM.out.cell (p := ⟨w.heap.size, 2, none⟩) hGm).trans hc2 | exact (hb3.cell (p := ⟨w.heap.size, 2, none⟩) hGm).trans hc2 | exact cell_stays hb (by assumption))
      (first
        | (go_at_call 52; refine (fixed_is lo _ hlo0 hlo1).mono ?_; rintro e w2 ⟨A2, c2, rfl, hr2, hb⟩)
        | (refine step_copy_splice rfl (.tmp 17) (.tmp 21) 40 40 rfl 5 Try.underlying40 size8 _ _ _ _ _ _ rfl rfl M 8 (xs1.map cellOf) 81 (HA.out.keepd hb) ((Wire.fx (lo).toNat).map cellOf) rfl (src_ok (by omega) hr2) (by rw [fx_cells, List.length_map, HXL.out]; omega) (cells_one _) M X0 (below_ond HBM.out (Nat.le_of_lt HA.out.lt) hb) (Nat.le_refl _) ?_; intro w3 hg3 hb3))
    obtain ⟨xs2, hxs2⟩ : ∃ ys, ys = over xs1 8 (Wire.fx (lo).toNat) := ⟨_, rfl⟩
    replace HA := Lib.hid (show Arr w3 M 81 xs2 by rw [hxs2]; exact Arr.of_copy hg3)
    replace HXL := Lib.hid (show xs2.length = 16 by rw [hxs2, over_len (by rw [fx_len, HXL.out]; omega)]; exact HXL.out)
    have Hxs2 := Lib.hid hxs2
    replace HBM := Lib.hid hb3
    clear hr2 hb hg3 hb3 hxs2
    go_wp2
    go_region_held3 (fun w' => w'.cell? ⟨w.heap.size, 2, none⟩ = some (.int .i64 s)) (first | exact (HBM.out.cell (p := ⟨w.heap.size, 2, none⟩) hGm).trans hc2 | exact (hb3.cell (p := ⟨w.heap.size, 2, none⟩) hGm).trans hc2 | exact cell_stays hb (by assumption))
      (first
        | (go_at_call 52; refine (fixed_is hi _ hhi0 hhi1).mono ?_; rintro e w2 ⟨A2, c2, rfl, hr2, hb⟩)
        | (refine step_copy_splice rfl (.tmp 23) (.tmp 28) 40 40 rfl 5 Try.underlying40 size8 _ _ _ _ _ _ rfl rfl M 12 (xs2.map cellOf) 81 (HA.out.keepd hb) ((Wire.fx (hi).toNat).map cellOf) rfl (src_ok (by omega) hr2) (by rw [fx_cells, List.length_map, HXL.out]; omega) (cells_one _) M X0 (below_ond HBM.out (Nat.le_of_lt HA.out.lt) hb) (Nat.le_refl _) ?_; intro w3 hg3 hb3))
    obtain ⟨xs3, hxs3⟩ : ∃ ys, ys = over xs2 12 (Wire.fx (hi).toNat) := ⟨_, rfl⟩
    replace HA := Lib.hid (show Arr w3 M 81 xs3 by rw [hxs3]; exact Arr.of_copy hg3)
    replace HXL := Lib.hid (show xs3.length = 16 by rw [hxs3, over_len (by rw [fx_len, HXL.out]; omega)]; exact HXL.out)
    have Hxs3 := Lib.hid hxs3
    replace HBM := Lib.hid hb3
    clear hr2 hb hg3 hb3 hxs3
    obtain ⟨u, hu⟩ : ∃ u, u = Mark.code l r s := ⟨_, rfl⟩
    have HU : Hid (Arr w3 M 81 u) := Lib.hid (by
      have h := HA.out
      rw [Hxs3.out, Hxs2.out, Hxs1.out, HXS.out, HLO.out, HHI.out, code_over, ← hu] at h
      exact h)
    have hul : u.length = 16 := by rw [hu]; exact Mark.code_len ..
    obtain ⟨U, hU⟩ : ∃ U, U = (u.map cellOf).toArray := ⟨_, rfl⟩
    have hld := run_load_arr (P := Try.prog) HU.out hul
    rw [← hU] at hld
    have hUs : U.size = 16 := by rw [hU]; simpa using hul
    have hz7 : Arr w3 R 81 (List.replicate 16 0) := (HBM.out.block R hRm).trans HZ.out
    obtain ⟨w8, hst, ha8, hb8⟩ := run_store_arr (P := Try.prog) (ys := u) hz7 (by rw [hul]; rfl)
    rw [← hU] at hst
    have hld8 := run_load_arr (P := Try.prog) ha8 hul
    rw [← hU] at hld8
    have HEND := Lib.hid (show Ending.returned (.agg U) = .returned (.agg ((Mark.code l r s).map cellOf).toArray) ∧ Below w.heap.size w w8 from
      ⟨by rw [hU, hu], (HB.out.trans (HBM.out.mono (Nat.le_of_lt hGm))).trans (hb8.mono (Nat.le_of_lt hGR))⟩)
    clear hU hul hu hz7 ha8 hb8
    go_wp2
    refine bodyPost_ret (v := .agg U) ?_ rfl HEND.out
    simp [results, Try.results46, go_sem, hld8]

end Go.Proofs.Yteonjdigcecceaa.MarkPkg
