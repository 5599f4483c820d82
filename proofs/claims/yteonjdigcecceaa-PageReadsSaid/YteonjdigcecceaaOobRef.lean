/-
  The document's own answer for layer 5, the first part: Right, front. It tells the same as package oob.
-/
import Derived.Test.YteonjdigcecceaaOobKit
import Derived.Test.YteonjdigcecceaaFixedRef
import Derived.Test.YteonjdigcecceaaCrcRef
import Derived.Test.YteonjdigcecceaaHeld
namespace Go.Proofs.Yteonjdigcecceaa.OobPkg
open Go.RowKit
set_option maxRecDepth 4000

theorem rright_any (k l s : Int) (w : World) :
    Calls Try.prog 41 #[oob k l s] w fun e w' => e = .returned (.bool (decide (Oob.Ok k l s))) ∧ Below w.heap.size w w' := by
  have HB := Lib.hid ((Below.refl w.heap.size w).alloc (Nat.le_refl _) (.cells #[.int .i64 k, .int .i64 l, .int .i64 s] 44))
  have done : ∀ {x y : Bool} {w'}, x = y → Below w.heap.size w w' → Ending.returned (.bool x) = .returned (.bool y) ∧ Below w.heap.size w w' := fun h hb => ⟨by rw [h], hb⟩
  go_enter Try.func41, Try.ntmps41
  go_wp2
  all_goals go_ret
  all_goals refine done ?_ HB.out
  all_goals rw [Bool.eq_iff_iff]
  all_goals simp only [decide_eq_true_eq, Bool.false_eq_true, false_iff]
  all_goals unfold Oob.Ok
  all_goals omega

theorem byte_kind {k l s : Int} (h : Oob.Ok k l s) : .int .u8 (k % 256) = cellOf (UInt8.ofNat k.toNat) := by
  unfold Oob.Ok at h
  unfold cellOf
  rw [UInt8.toNat_ofNat']
  congr 1
  omega

theorem rfixed_is (n : Int) (w : World) (h0 : 0 ≤ n) (h1 : n ≤ 4294967295) :
    Calls Try.prog 44 #[.int .u32 n] w fun e w' => ∃ A c, e = .returned (.slice A 4 c) ∧ Bytes w' w'.heap.size A 4 (Wire.fx n.toNat) ∧ Below w.heap.size w w' := by
  refine (rfixed_any n w h0 h1).mono ?_
  rintro e w' ⟨v, rfl, ho, hb⟩
  obtain ⟨A, c, rfl, hr⟩ := ho.reads
  exact ⟨A, c, rfl, hr, hb⟩

set_option maxHeartbeats 1000000 in
theorem rfront_any (k l s : Int) (w : World) (hok : Oob.Ok k l s) :
    Calls Try.prog 42 #[oob k l s] w fun e w' => ∃ v, e = .returned v ∧ Own w' w.heap.size 5 v (Oob.front k l s) ∧ Below w.heap.size w w' := by
  have HOK := Lib.hid hok
  have hwl : IntKind.u32.wrap l = l := by unfold Oob.Ok at hok; rw [IntKind.wrap_u32]; omega
  have hl0 : 0 ≤ l := hok.2.2.1
  have hl1 : l ≤ 4294967295 := by have := hok.2.2.2.1; omega
  obtain ⟨lo, hlo⟩ : ∃ lo, lo = s % 4294967296 := ⟨_, rfl⟩
  obtain ⟨hi, hhi⟩ : ∃ hi, hi = s / 4294967296 := ⟨_, rfl⟩
  obtain ⟨kb, hkb⟩ : ∃ kb, kb = UInt8.ofNat k.toNat := ⟨_, rfl⟩
  have HKB := Lib.hid hkb
  have hwk : IntKind.u8.wrap k = (kb.toNat : Int) := by
    unfold Oob.Ok at hok
    rw [hkb, IntKind.wrap_u8, UInt8.toNat_ofNat']
    omega
  have hb0 : 0 ≤ lo ∧ lo ≤ 4294967295 ∧ 0 ≤ hi ∧ hi ≤ 4294967295 := by unfold Oob.Ok at hok; omega
  have HLO := Lib.hid hlo
  have HHI := Lib.hid hhi
  have HBX := Lib.hid ((Below.refl w.heap.size w).alloc (Nat.le_refl _) (.cells #[.int .i64 k, .int .i64 l, .int .i64 s] 44))
  have H1 := Lib.hid (Tri.new w k l s)
  clear hok hlo hhi hkb
  go_enter Try.func42, Try.ntmps42
  go_wp2
  refine at_world ?_
  intro X hX
  replace HBX := Lib.hid (show Below w.heap.size w X by rw [hX]; exact HBX.out)
  replace H1 := Lib.hid (show Tri X w.heap.size k l s by rw [hX]; exact H1.out)
  clear hX
  refine wp_region_held_drew (S := (fun w' => w'.cell? ⟨w.heap.size, 0, none⟩ = some (.int .i64 k) ∧ w'.cell? ⟨w.heap.size, 1, none⟩ = some (.int .i64 l))) (by kernel_rfl) ?_ (fun hHeld => ?_)
  · exact ⟨H1.out.c0, H1.out.c1⟩
  refine Hand.held_take (i := 0) (d := 4) (v := ?_) rfl rfl (by kernel_rfl) (by kernel_rfl) (by kernel_rfl) (by rfl) ?_ (by assumption) (fun _ _ _ h => h) ?_
  rotate_left
  · intro w hSw
    go_simp
    with_reducible rfl
  try simp only [Act.put, List.setIfInBounds_toArray, List.set_cons_zero, List.set_cons_succ]
  refine Hand.held_take (i := 1) (d := 5) (v := ?_) rfl rfl (by kernel_rfl) (by kernel_rfl) (by kernel_rfl) (by rfl) ?_ (by assumption) (fun _ _ _ h => h) ?_
  rotate_left
  · intro w hSw
    go_simp
    with_reducible rfl
  try simp only [Act.put, List.setIfInBounds_toArray, List.set_cons_zero, List.set_cons_succ]
  refine Hand.held_take (i := 2) (d := 6) (v := ?_) rfl rfl (by kernel_rfl) (by kernel_rfl) (by kernel_rfl) (by rfl) ?_ (by assumption) (fun _ _ _ h => h) ?_
  rotate_left
  · intro w hSw
    go_simp
    with_reducible rfl
  try simp only [Act.put, List.setIfInBounds_toArray, List.set_cons_zero, List.set_cons_succ]
  refine Hand.held_take (i := 4) (d := 8) (v := ?_) rfl rfl (by kernel_rfl) (by kernel_rfl) (by kernel_rfl) (by rfl) ?_ (by assumption) (fun _ _ _ h => h) ?_
  rotate_left
  · intro w hSw
    go_simp
    with_reducible rfl
  try simp only [Act.put, List.setIfInBounds_toArray, List.set_cons_zero, List.set_cons_succ]
  refine Hand.held_take (i := 5) (d := 9) (v := ?_) rfl rfl (by kernel_rfl) (by kernel_rfl) (by kernel_rfl) (by rfl) ?_ (by assumption) (fun _ _ _ h => h) ?_
  rotate_left
  · intro w hSw
    go_simp
    with_reducible rfl
  try simp only [Act.put, List.setIfInBounds_toArray, List.set_cons_zero, List.set_cons_succ]
  refine Hand.held_take (i := 6) (d := 10) (v := ?_) rfl rfl (by kernel_rfl) (by kernel_rfl) (by kernel_rfl) (by rfl) ?_ (by assumption) (fun _ _ _ h => h) ?_
  rotate_left
  · intro w hSw
    go_simp
    with_reducible rfl
  try simp only [Act.put, List.setIfInBounds_toArray, List.set_cons_zero, List.set_cons_succ]
  refine wpAnyH_ready (rs := [3, 7]) (by kernel_rfl) (by simp) ?_
  refine AllReadyH.cons rfl (fun K hK => ?_) (AllReadyH.cons rfl (fun K hK => ?_) AllReadyH.nil)
  · go_simp
    refine hK.out _ _ ?_ (fun hHeld => ?_)
    · exact ⟨(H1.out.old _).c0, (H1.out.old _).c1⟩
    clear hK K
    have HO := Lib.hid (own_new X 5 [kb] _ rfl (show 1 ≤ maxLen by decide))
    have HTa := Lib.hid (H1.out.old (.cells #[.int .u8 (kb.toNat : Int)] 5))
    have HBa := Lib.hid (HBX.out.alloc HBX.out.size (.cells #[.int .u8 (kb.toNat : Int)] 5))
    refine wpAnyH_ready (rs := [7]) (by kernel_rfl) (by simp) ?_
    refine AllReadyH.cons rfl (fun K hK => ?_) AllReadyH.nil
    go_simp
    go_wp2_with (go_at_call 44; refine (rfixed_is l _ hl0 hl1).mono ?_; rintro e w2 ⟨A2, c2, rfl, hr2, hb⟩; have HT2 := Lib.hid (Tri.keep (w := (X.alloc (.cells #[.int .u8 (kb.toNat : Int)] 5)).drew) HTa.out hb); have HB2 := Lib.hid (below_on HBa.out.drew hb))
    refine hK.out _ _ ?_ (fun hHeld => ?_)
    · exact ⟨HT2.out.c0, HT2.out.c1⟩
    clear hK K
    have HO2 := Lib.hid (HO.out.keep (w' := w2) (fun k hk => hb.block k (HO.out.lt k hk)))
    have hsz : X.heap.size ≤ w2.heap.size := Nat.le_trans (by simp) hb.size
    have hXw := HBX.out.size
    have HR2 := Lib.hid hr2
    clear hr2 hb
    refine wpAnyH_ready (rs := [8]) (by kernel_rfl) (by simp) ?_
    refine AllReadyH.cons rfl (fun K hK => ?_) AllReadyH.nil
    refine step_append_bytes w2 rfl (.tmp 7) (.tmp 11) 40 rfl X.heap.size 5 Try.underlying40 info8 (.slice (some ⟨X.heap.size, 0, none⟩) 1 1) [kb] rfl HO2.out _ A2 4 c2 (Wire.fx l.toNat) rfl HR2.out (by simp) hsz ?_
    intro v3 w3 ho3 hg3 _
    have HB3 := Lib.hid (HB2.out.grown hg3 HB2.out.size (fun k hk => by simp [Value.ownBlock] at hk; omega))
    have HT3 := Lib.hid (show Tri w3 w.heap.size k l s from (((Below.refl X.heap.size w2).grown hg3 hsz (fun k hk => by simp [Value.ownBlock] at hk; omega)).block w.heap.size (by have := H1.out.lt; omega)).trans HT2.out)
    refine hK.out _ _ ?_ (fun hHeld => ?_)
    · exact ⟨HT3.out.c0, HT3.out.c1⟩
    clear hK K
    refine Hand.held_take (i := 9) (d := 3) (v := ?_) rfl rfl (by kernel_rfl) (by kernel_rfl) (by kernel_rfl) (by rfl) ?_ (by assumption) (fun _ _ _ h => h) ?_
    rotate_left
    · intro w hSw
      go_simp
      with_reducible rfl
    refine wpAnyH_done (by kernel_rfl) ?_ _
    replace ho3 := ho3.le (show w.heap.size + 1 ≤ X.heap.size from H1.out.lt)
    clear hHeld hg3 HO HO2 HTa HBa HT2 HB2 HR2 hsz hXw
    obtain ⟨y1, hy1⟩ : ∃ y, y = [kb] ++ Wire.fx l.toNat := ⟨_, rfl⟩
    rw [← hy1] at ho3
    have HXy1 := Lib.hid (show y1.length = 5 by rw [hy1]; rfl)
    have HEy1 := Lib.hid hy1
    have HO3 := Lib.hid ho3
    clear ho3 hy1
    have cc2 := HT3.out.c2
    have hs0 : 0 ≤ s := HOK.out.2.2.2.2.1
    have hwlo : IntKind.u32.wrap (s % 4294967296) = lo := by rw [HLO.out, IntKind.wrap_u32]; omega
    have hwhi : wrap64 (s.tdiv 4294967296) % 4294967296 = hi := by have := HOK.out; unfold Oob.Ok at this; rw [HHI.out, Int.tdiv_eq_ediv_of_nonneg hs0, IntWalk.wrap64_in _ ⟨by omega, by omega⟩]; omega
    obtain ⟨hlo0, hlo1, hhi0, hhi1⟩ := hb0
    go_wp2_with fail
    refine (rfixed_is lo _ hlo0 hlo1).mono ?_
    rintro e w4 ⟨A4, c4, rfl, hr4, hb⟩
    have HO4 := Lib.hid (HO3.out.keep (w' := w4) (fun k hk => hb.block k (HO3.out.lt k hk)))
    have HB4 := Lib.hid (below_on HB3.out hb)
    have HT4 := Lib.hid (HT3.out.keep hb)
    have HR4 := Lib.hid hr4
    have hG4 : w.heap.size + 1 ≤ w4.heap.size := HT4.out.lt
    have HL4 := Lib.hid (show y1.length + 4 ≤ 140737488355328 by have := HXy1.out; omega)
    clear hr4 hb cc2
    go_wp2_with (at_builtin; refine wpList_append_bytes _ rfl _ _ _ rfl (w.heap.size + 1) 5 Try.underlying40 info8 v3 y1 rfl HO4.out w4.heap.size A4 4 c4 (Wire.fx (lo).toNat) rfl HR4.out HL4.out hG4 ?_)
    intro v5 w5 ho5 hg5 _
    have hbk := (Below.refl (w.heap.size + 1) w4).grown hg5 hG4 HO4.out.block
    have HT5 := Lib.hid (show Tri w5 w.heap.size k l s from (hbk.block w.heap.size (by omega)).trans HT4.out)
    have HB5 := Lib.hid (HB4.out.trans (hbk.mono (by omega)))
    obtain ⟨y2, hy2⟩ : ∃ y, y = y1 ++ Wire.fx (lo).toNat := ⟨_, rfl⟩
    rw [← hy2] at ho5
    have HXy2 := Lib.hid (show y2.length = y1.length + 4 by rw [hy2, List.length_append, fx_len])
    have HEy2 := Lib.hid hy2
    have HO5 := Lib.hid ho5
    clear ho5 hg5 hbk hy2 HT4 HB4 HO4 HR4 HL4
    have cc2 := HT5.out.c2
    go_wp2_with fail
    refine (rfixed_is hi _ hhi0 hhi1).mono ?_
    rintro e w6 ⟨A6, c6, rfl, hr6, hb⟩
    have HO6 := Lib.hid (HO5.out.keep (w' := w6) (fun k hk => hb.block k (HO5.out.lt k hk)))
    have HB6 := Lib.hid (below_on HB5.out hb)
    have HT6 := Lib.hid (HT5.out.keep hb)
    have HR6 := Lib.hid hr6
    have hG6 : w.heap.size + 1 ≤ w6.heap.size := HT6.out.lt
    have HL6 := Lib.hid (show y2.length + 4 ≤ 140737488355328 by have := HXy2.out; have := HXy1.out; omega)
    clear hr6 hb cc2
    go_wp2_with (at_builtin; refine wpList_append_bytes _ rfl _ _ _ rfl (w.heap.size + 1) 5 Try.underlying40 info8 v5 y2 rfl HO6.out w6.heap.size A6 4 c6 (Wire.fx (hi).toNat) rfl HR6.out HL6.out hG6 ?_)
    intro v7 w7 ho7 hg7 _
    have hbk := (Below.refl (w.heap.size + 1) w6).grown hg7 hG6 HO6.out.block
    have HT7 := Lib.hid (show Tri w7 w.heap.size k l s from (hbk.block w.heap.size (by omega)).trans HT6.out)
    have HB7 := Lib.hid (HB6.out.trans (hbk.mono (by omega)))
    obtain ⟨y3, hy3⟩ : ∃ y, y = y2 ++ Wire.fx (hi).toNat := ⟨_, rfl⟩
    rw [← hy3] at ho7
    have HXy3 := Lib.hid (show y3.length = y2.length + 4 by rw [hy3, List.length_append, fx_len])
    have HEy3 := Lib.hid hy3
    have HO7 := Lib.hid ho7
    clear ho7 hg7 hbk hy3 HT6 HB6 HO6 HR6 HL6
    go_wp2
    go_ret
    refine ⟨_, rfl, ?_, HB7.out⟩
    have h := HO7.out.le (Nat.le_succ w.heap.size)
    rw [HEy3.out, HEy2.out, HEy1.out, HKB.out, HLO.out, HHI.out] at h
    simpa [Oob.front] using h
  · go_simp
    go_wp2_with (go_at_call 44; refine (rfixed_is l _ hl0 hl1).mono ?_; rintro e w2 ⟨A2, c2, rfl, hr2, hb⟩; have HT2 := Lib.hid (Tri.keep (w := X.drew) H1.out hb); have HB2 := Lib.hid (below_on HBX.out.drew hb))
    refine hK.out _ _ ?_ (fun hHeld => ?_)
    · exact ⟨HT2.out.c0, HT2.out.c1⟩
    clear hK K
    refine wpAnyH_ready (rs := [3]) (by kernel_rfl) (by simp) ?_
    refine AllReadyH.cons rfl (fun K hK => ?_) AllReadyH.nil
    go_simp
    refine hK.out _ _ ?_ (fun hHeld => ?_)
    · exact ⟨(HT2.out.old _).c0, (HT2.out.old _).c1⟩
    clear hK K
    have HO := Lib.hid (own_new w2 5 [kb] _ rfl (show 1 ≤ maxLen by decide))
    have hba := (Below.refl w2.heap.size w2).alloc (Nat.le_refl _) (.cells #[.int .u8 (kb.toNat : Int)] 5)
    replace HT2 := Lib.hid (HT2.out.old (.cells #[.int .u8 (kb.toNat : Int)] 5))
    replace HB2 := Lib.hid (HB2.out.alloc HB2.out.size (.cells #[.int .u8 (kb.toNat : Int)] 5))
    have HR2 := Lib.hid (bytes_keep hr2 hba)
    have hsz := hba.size
    have hXw := HBX.out.size
    have hXw2 : X.heap.size ≤ w2.heap.size := hb.size
    clear hr2 hba hb
    refine wpAnyH_ready (rs := [8]) (by kernel_rfl) (by simp) ?_
    refine AllReadyH.cons rfl (fun K hK => ?_) AllReadyH.nil
    refine step_append_bytes (w2.alloc (.cells #[.int .u8 (kb.toNat : Int)] 5)) rfl (.tmp 7) (.tmp 11) 40 rfl w2.heap.size 5 Try.underlying40 info8 (.slice (some ⟨w2.heap.size, 0, none⟩) 1 1) [kb] rfl HO.out _ A2 4 c2 (Wire.fx l.toNat) rfl HR2.out (by simp) hsz ?_
    intro v3 w3 ho3 hg3 _
    have HB3 := Lib.hid (HB2.out.grown hg3 HB2.out.size (fun k hk => by simp [Value.ownBlock] at hk; omega))
    have HT3 := Lib.hid (show Tri w3 w.heap.size k l s from (((Below.refl w2.heap.size (w2.alloc (.cells #[.int .u8 (kb.toNat : Int)] 5))).grown hg3 hsz (fun k hk => by simp [Value.ownBlock] at hk; omega)).block w.heap.size (by have := H1.out.lt; omega)).trans HT2.out)
    refine hK.out _ _ ?_ (fun hHeld => ?_)
    · exact ⟨HT3.out.c0, HT3.out.c1⟩
    clear hK K
    refine Hand.held_take (i := 9) (d := 3) (v := ?_) rfl rfl (by kernel_rfl) (by kernel_rfl) (by kernel_rfl) (by rfl) ?_ (by assumption) (fun _ _ _ h => h) ?_
    rotate_left
    · intro w hSw
      go_simp
      with_reducible rfl
    refine wpAnyH_done (by kernel_rfl) ?_ _
    replace ho3 := ho3.le (show w.heap.size + 1 ≤ w2.heap.size from Nat.le_trans H1.out.lt hXw2)
    clear hHeld hg3 HO HT2 HB2 HR2 hsz hXw hXw2
    obtain ⟨y1, hy1⟩ : ∃ y, y = [kb] ++ Wire.fx l.toNat := ⟨_, rfl⟩
    rw [← hy1] at ho3
    have HXy1 := Lib.hid (show y1.length = 5 by rw [hy1]; rfl)
    have HEy1 := Lib.hid hy1
    have HO3 := Lib.hid ho3
    clear ho3 hy1
    have cc2 := HT3.out.c2
    have hs0 : 0 ≤ s := HOK.out.2.2.2.2.1
    have hwlo : IntKind.u32.wrap (s % 4294967296) = lo := by rw [HLO.out, IntKind.wrap_u32]; omega
    have hwhi : wrap64 (s.tdiv 4294967296) % 4294967296 = hi := by have := HOK.out; unfold Oob.Ok at this; rw [HHI.out, Int.tdiv_eq_ediv_of_nonneg hs0, IntWalk.wrap64_in _ ⟨by omega, by omega⟩]; omega
    obtain ⟨hlo0, hlo1, hhi0, hhi1⟩ := hb0
    go_wp2_with fail
    refine (rfixed_is lo _ hlo0 hlo1).mono ?_
    rintro e w4 ⟨A4, c4, rfl, hr4, hb⟩
    have HO4 := Lib.hid (HO3.out.keep (w' := w4) (fun k hk => hb.block k (HO3.out.lt k hk)))
    have HB4 := Lib.hid (below_on HB3.out hb)
    have HT4 := Lib.hid (HT3.out.keep hb)
    have HR4 := Lib.hid hr4
    have hG4 : w.heap.size + 1 ≤ w4.heap.size := HT4.out.lt
    have HL4 := Lib.hid (show y1.length + 4 ≤ 140737488355328 by have := HXy1.out; omega)
    clear hr4 hb cc2
    go_wp2_with (at_builtin; refine wpList_append_bytes _ rfl _ _ _ rfl (w.heap.size + 1) 5 Try.underlying40 info8 v3 y1 rfl HO4.out w4.heap.size A4 4 c4 (Wire.fx (lo).toNat) rfl HR4.out HL4.out hG4 ?_)
    intro v5 w5 ho5 hg5 _
    have hbk := (Below.refl (w.heap.size + 1) w4).grown hg5 hG4 HO4.out.block
    have HT5 := Lib.hid (show Tri w5 w.heap.size k l s from (hbk.block w.heap.size (by omega)).trans HT4.out)
    have HB5 := Lib.hid (HB4.out.trans (hbk.mono (by omega)))
    obtain ⟨y2, hy2⟩ : ∃ y, y = y1 ++ Wire.fx (lo).toNat := ⟨_, rfl⟩
    rw [← hy2] at ho5
    have HXy2 := Lib.hid (show y2.length = y1.length + 4 by rw [hy2, List.length_append, fx_len])
    have HEy2 := Lib.hid hy2
    have HO5 := Lib.hid ho5
    clear ho5 hg5 hbk hy2 HT4 HB4 HO4 HR4 HL4
    have cc2 := HT5.out.c2
    go_wp2_with fail
    refine (rfixed_is hi _ hhi0 hhi1).mono ?_
    rintro e w6 ⟨A6, c6, rfl, hr6, hb⟩
    have HO6 := Lib.hid (HO5.out.keep (w' := w6) (fun k hk => hb.block k (HO5.out.lt k hk)))
    have HB6 := Lib.hid (below_on HB5.out hb)
    have HT6 := Lib.hid (HT5.out.keep hb)
    have HR6 := Lib.hid hr6
    have hG6 : w.heap.size + 1 ≤ w6.heap.size := HT6.out.lt
    have HL6 := Lib.hid (show y2.length + 4 ≤ 140737488355328 by have := HXy2.out; have := HXy1.out; omega)
    clear hr6 hb cc2
    go_wp2_with (at_builtin; refine wpList_append_bytes _ rfl _ _ _ rfl (w.heap.size + 1) 5 Try.underlying40 info8 v5 y2 rfl HO6.out w6.heap.size A6 4 c6 (Wire.fx (hi).toNat) rfl HR6.out HL6.out hG6 ?_)
    intro v7 w7 ho7 hg7 _
    have hbk := (Below.refl (w.heap.size + 1) w6).grown hg7 hG6 HO6.out.block
    have HT7 := Lib.hid (show Tri w7 w.heap.size k l s from (hbk.block w.heap.size (by omega)).trans HT6.out)
    have HB7 := Lib.hid (HB6.out.trans (hbk.mono (by omega)))
    obtain ⟨y3, hy3⟩ : ∃ y, y = y2 ++ Wire.fx (hi).toNat := ⟨_, rfl⟩
    rw [← hy3] at ho7
    have HXy3 := Lib.hid (show y3.length = y2.length + 4 by rw [hy3, List.length_append, fx_len])
    have HEy3 := Lib.hid hy3
    have HO7 := Lib.hid ho7
    clear ho7 hg7 hbk hy3 HT6 HB6 HO6 HR6 HL6
    go_wp2
    go_ret
    refine ⟨_, rfl, ?_, HB7.out⟩
    have h := HO7.out.le (Nat.le_succ w.heap.size)
    rw [HEy3.out, HEy2.out, HEy1.out, HKB.out, HLO.out, HHI.out] at h
    simpa [Oob.front] using h

end Go.Proofs.Yteonjdigcecceaa.OobPkg
