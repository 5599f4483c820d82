/-
  What each function of package oob does, the last part: Unpack.
-/
import Derived.Test.YteonjdigcecceaaOobHead
import Derived.Test.YteonjdigcecceaaArrEq
namespace Go.Proofs.Yteonjdigcecceaa.OobPkg
open Go.RowKit
set_option maxRecDepth 4000

/-- The stamp as the program puts it together. -/
def stampI (b : List UInt8) : Int := bits .or .i64 (IntKind.i64.wrap (Oob.highOf b * 4294967296)) (Oob.lowOf b)

theorem stamp_wrap (b : List UInt8) : stampI b = IntKind.i64.wrap (Oob.stampOf b) := by
  have hh := Oob.high_bd b
  have hl := Oob.low_bd b
  obtain ⟨h, hhe⟩ := Int.eq_ofNat_of_zero_le hh.1
  obtain ⟨l, hle⟩ := Int.eq_ofNat_of_zero_le hl.1
  unfold stampI Oob.stampOf
  rw [hhe, hle]
  rw [hhe] at hh
  rw [hle] at hl
  have e1 : BitVec.ofInt 64 (IntKind.i64.wrap ((h : Int) * 4294967296)) = BitVec.ofNat 64 (h * 4294967296) := by
    apply BitVec.eq_of_toNat_eq
    rw [BitVec.toNat_ofInt, BitVec.toNat_ofNat, IntKind.wrap_i64]
    omega
  show IntKind.i64.wrap ((BitVec.ofInt 64 (IntKind.i64.wrap ((h : Int) * 4294967296)) ||| BitVec.ofInt 64 (l : Int)).toNat : Int) = _
  rw [BitVec.toNat_or, e1, ofInt_u64 l (by omega), BitVec.toNat_ofNat]
  congr 1
  have e2 : h * 4294967296 % 2 ^ 64 = h <<< 32 := by rw [Nat.shiftLeft_eq]; omega
  rw [e2, ← Nat.shiftLeft_add_eq_or_of_lt (show l < 2 ^ 32 by omega), Nat.shiftLeft_eq]
  omega

theorem ok_iff (b : List UInt8) (k l : Int) : Oob.Ok k l (stampI b) ↔ Oob.Ok k l (Oob.stampOf b) := by
  have hh := Oob.high_bd b
  have hl := Oob.low_bd b
  have e := stamp_wrap b
  rw [IntKind.wrap_i64] at e
  unfold Oob.Ok
  unfold Oob.stampOf at *
  omega

theorem stamp_is (b : List UInt8) (k l : Int) (h : Oob.Ok k l (Oob.stampOf b)) : stampI b = Oob.stampOf b := by
  have hh := Oob.high_bd b
  have hl := Oob.low_bd b
  have e := stamp_wrap b
  rw [IntKind.wrap_i64] at e
  unfold Oob.Ok at h
  unfold Oob.stampOf at *
  omega

theorem neq_arr (w : World) {xs ys : List UInt8} (hx : xs.length = 17) (hy : ys.length = 17) :
    (Op.equalIn 10000 70 (.agg (xs.map cellOf).toArray) (.agg (ys.map cellOf).toArray)).run Try.prog w = .ok (decide (xs = ys)) w :=
  run_eq_arr w 9998 Try.underlying70 Try.underlying5 (i := Try.t5) (by kernel_rfl) (by kernel_rfl) hx hy

theorem Unpack_len (A A2 : Option Addr) (n c m c2 : Nat) (w : World) (h : ¬ (n = 17 ∧ m = 16)) :
    Calls Try.prog 20 #[.slice A n c, .slice A2 m c2] w fun e w' => e = .returned (.tuple #[oob 0 0 0, .int .i64 3]) ∧ Below w.heap.size w w' := by
  have HB := Lib.hid ((Below.refl w.heap.size w).alloc (Nat.le_refl _) (.cells #[.int .i64 0, .int .i64 0, .int .i64 0] 44))
  by_cases hn : n = 17
  · have hs := fun w => isSector_any A2 m c2 w
    simp only [decide_eq_false (show ¬ m = 16 from fun e => h ⟨hn, e⟩)] at hs
    have HSS := Lib.hid hs
    subst hn
    clear hs h
    go_enter Try.func20, Try.ntmps20
    go_wp2_with fail
    refine (HSS.out _).mono ?_
    rintro e w3 ⟨rfl, hw⟩; subst w3
    go_wp2
    refine bodyPost_ret (v := .tuple #[oob 0 0 0, .int .i64 3]) ?_ rfl ⟨rfl, HB.out⟩
    simp [results, Try.results20, go_sem]
  · have hn2 : ¬ (n : Int) = 17 := by omega
    clear h
    go_enter Try.func20, Try.ntmps20
    go_wp2
    refine bodyPost_ret (v := .tuple #[oob 0 0 0, .int .i64 3]) ?_ rfl ⟨rfl, HB.out⟩
    simp [results, Try.results20, go_sem]

attribute [-go_sem] loadCellsFrom storeCells

set_option maxHeartbeats 1000000 in
theorem Unpack_bad (A A2 : Option Addr) (c c2 : Nat) (b d : List UInt8) (w : World) (hr : Bytes w w.heap.size A 17 b) (hr2 : Bytes w w.heap.size A2 16 d) (hok : ¬ Oob.Ok (Oob.kindOf b) (Oob.lbaOf b) (Oob.stampOf b)) :
    Calls Try.prog 20 #[.slice A 17 c, .slice A2 16 c2] w fun e w' => e = .returned (.tuple #[oob 0 0 0, .int .i64 3]) ∧ Below w.heap.size w w' := by
  have hbl := hr.1
  have hdl := hr2.1
  have hh := fun w => head_any b hbl w
  have e1 : bits .or .i64 (IntKind.i64.wrap (Oob.highOf b * 4294967296)) (Oob.lowOf b) = stampI b := rfl
  simp only [e1] at hh
  clear e1
  have hrg := fun w => right_any (Oob.kindOf b) (Oob.lbaOf b) (stampI b) w
  rw [decide_eq_false (fun h => hok ((ok_iff b _ _).1 h))] at hrg
  clear hok
  generalize stampI b = s at hh hrg
  generalize Oob.kindOf b = k at hh hrg
  generalize Oob.lbaOf b = l at hh hrg
  have HRG := Lib.hid hrg
  clear hrg
  have HR := Lib.hid hr
  have HR2 := Lib.hid hr2
  have HBL := Lib.hid hbl
  have hs := fun w => isSector_any A2 16 c2 w
  simp only [decide_true] at hs
  have HSS := Lib.hid hs
  obtain ⟨cs, hcs⟩ : ∃ cs, cs = b.map cellOf := ⟨_, rfl⟩
  simp only [← hcs] at hh
  have HHD := Lib.hid hh
  have HCS := Lib.hid hcs
  have hcl : cs.length = 17 := by rw [hcs]; simpa using hbl
  have HCL := Lib.hid (show (b.map cellOf).length = Nat.min 17 17 by rw [← hcs, hcl]; rfl)
  have HB1 := Lib.hid (show Below w.heap.size w ((w.alloc (.cells #[.int .i64 0, .int .i64 0, .int .i64 0] 44)).alloc (.cells ((List.replicate 17 (0 : UInt8)).map cellOf).toArray 70)) from ((Below.refl w.heap.size w).alloc (Nat.le_refl _) _).alloc (by simp) _)
  have HT1 := Lib.hid (show Tri ((w.alloc (.cells #[.int .i64 0, .int .i64 0, .int .i64 0] 44)).alloc (.cells ((List.replicate 17 (0 : UInt8)).map cellOf).toArray 70)) w.heap.size 0 0 0 from (Tri.new w 0 0 0).keep ((Below.refl _ _).alloc (Nat.le_refl _) _))
  obtain ⟨zs, hzs⟩ : ∃ zs, zs = List.replicate 17 (0 : UInt8) := ⟨_, rfl⟩
  have HZS := Lib.hid hzs
  have HA1 := Lib.hid (show Arr ((w.alloc (.cells #[.int .i64 0, .int .i64 0, .int .i64 0] 44)).alloc (.cells ((List.replicate 17 (0 : UInt8)).map cellOf).toArray 70)) (w.heap.size + 1) 70 zs from by
    rw [hzs]
    have h := Arr.new (w.alloc (.cells #[.int .i64 0, .int .i64 0, .int .i64 0] 44)) 70 (List.replicate 17 0)
    rw [World.size_alloc] at h
    exact h)
  have HCF := Lib.hid (show 0 + (b.map cellOf).length ≤ (zs.map cellOf).length by rw [← hcs, hcl, hzs]; simp)
  have HRb := Lib.hid (bytes_more (bytes_keep HR.out HB1.out) HB1.out.size)
  have hwe : w.heap.size < w.heap.size + 1 := by omega
  clear hr hr2 hbl hdl hh hs hcs hzs
  go_enter Try.func20, Try.ntmps20
  go_wp2_with fail
  refine (HSS.out _).mono ?_
  rintro e w0 ⟨rfl, hw⟩; subst w0
  go_wp2_with (refine wpList_copy_splice rfl _ _ _ _ rfl 5 Try.underlying40 size8 _ _ _ _ _ _ rfl rfl (w.heap.size + 1) 0 (zs.map cellOf) 70 HA1.out (b.map cellOf) HCL.out (src_ok (by omega) HRb.out) HCF.out (cells_one _) (w.heap.size + 1) _ (Below.refl _ _) (Nat.le_refl _) ?_)
  intro w2 hg2 hb2
  have HA2 := Lib.hid (show Arr w2 (w.heap.size + 1) 70 b by
    have h := Arr.of_copy hg2
    rw [HZS.out, over_all HBL.out] at h
    exact h)
  have HT2 := Lib.hid (show Tri w2 w.heap.size 0 0 0 from (hb2.block w.heap.size hwe).trans HT1.out)
  have HB2 := Lib.hid (show Below w.heap.size w w2 from HB1.out.trans (hb2.mono (Nat.le_of_lt hwe)))
  clear hg2 hb2 HA1 HT1 HB1 HRb HCL HCF
  obtain ⟨C, hC⟩ : ∃ C, C = w.heap.size + 1 := ⟨_, rfl⟩
  rw [← hC] at HA2 hwe ⊢
  clear hC
  have hld : (loadCellsFrom ⟨C, 0, none⟩ 0 17 #[]).run Try.prog w2 = .ok cs.toArray w2 := by rw [HCS.out]; exact run_load_arr HA2.out HBL.out
  go_wp2_with fail
  refine (HHD.out _).mono ?_
  rintro e w3 ⟨rfl, hb3⟩
  obtain ⟨w4, hst, ht4, hb4⟩ := (Tri.new w3 0 0 0).store k l s
  have hb34 := ((Below.refl w3.heap.size w3).alloc (Nat.le_refl _) (.cells #[.int .i64 0, .int .i64 0, .int .i64 0] 44)).trans hb4
  have hld4 := ht4.load
  have HT4 := Lib.hid ht4
  have HB4 := Lib.hid (below_on (below_on HB2.out hb3) hb34)
  have HZ4 := Lib.hid ((HT2.out.keep hb3).keep hb34)
  have HA4 := Lib.hid ((HA2.out.keep hb3).keep hb34)
  clear hb3 hb4 hb34 ht4 hld
  go_wp2_with fail
  refine (HRG.out _).mono ?_
  rintro e w5 ⟨rfl, hb⟩
  have HT5 := Lib.hid (HT4.out.keep hb)
  have HB5 := Lib.hid (below_on HB4.out hb)
  have HZ5 := Lib.hid (HZ4.out.keep hb)
  have HA5 := Lib.hid (HA4.out.keep hb)
  generalize w3.heap.size = D at HT5 ⊢
  clear hb hst hld4 HT4 HB4 HZ4 HA4 HT2 HB2 HA2
  obtain ⟨w6, hst, ht6, hb6⟩ := HZ5.out.store 0 0 0
  have hld6 := ht6.load
  have HB6 := Lib.hid (HB5.out.trans hb6)
  clear ht6 hb6
  go_wp2
  refine bodyPost_ret (v := .tuple #[oob 0 0 0, .int .i64 3]) ?_ rfl ⟨rfl, HB6.out⟩
  simp [results, Try.results20, go_sem, hld6]

set_option maxHeartbeats 1000000 in
theorem Unpack_sum (A A2 : Option Addr) (c c2 : Nat) (b d : List UInt8) (w : World) (hr : Bytes w w.heap.size A 17 b) (hr2 : Bytes w w.heap.size A2 16 d) (hok : Oob.Ok (Oob.kindOf b) (Oob.lbaOf b) (Oob.stampOf b)) (hf : Oob.full (Oob.kindOf b) (Oob.lbaOf b) (Oob.stampOf b) d ≠ b) :
    Calls Try.prog 20 #[.slice A 17 c, .slice A2 16 c2] w fun e w' => e = .returned (.tuple #[oob 0 0 0, .int .i64 4]) ∧ Below w.heap.size w w' := by
  have hbl := hr.1
  have hdl := hr2.1
  have hh := fun w => head_any b hbl w
  have e1 : bits .or .i64 (IntKind.i64.wrap (Oob.highOf b * 4294967296)) (Oob.lowOf b) = stampI b := rfl
  simp only [e1] at hh
  clear e1
  have hrg := fun w => right_any (Oob.kindOf b) (Oob.lbaOf b) (stampI b) w
  rw [decide_eq_true ((ok_iff b _ _).2 hok)] at hrg
  have hpk := fun w h => pack_any (Oob.kindOf b) (Oob.lbaOf b) (Oob.stampOf b) A2 c2 d w hok h
  have heq := fun w => neq_arr w (Oob.full_len (Oob.kindOf b) (Oob.lbaOf b) (Oob.stampOf b) d) hbl
  rw [decide_eq_false hf] at heq
  rw [stamp_is b _ _ hok] at hrg hh
  clear hok hf
  generalize Oob.full (Oob.kindOf b) (Oob.lbaOf b) (Oob.stampOf b) d = u at hpk heq
  obtain ⟨fs, hfs⟩ : ∃ fs, fs = u.map cellOf := ⟨_, rfl⟩
  simp only [← hfs] at hpk heq
  clear hfs
  generalize Oob.stampOf b = s at hh hrg hpk
  generalize Oob.kindOf b = k at hh hrg hpk
  generalize Oob.lbaOf b = l at hh hrg hpk
  have HRG := Lib.hid hrg
  have HPK := Lib.hid hpk
  clear hrg hpk
  have HR := Lib.hid hr
  have HR2 := Lib.hid hr2
  have HBL := Lib.hid hbl
  have hs := fun w => isSector_any A2 16 c2 w
  simp only [decide_true] at hs
  have HSS := Lib.hid hs
  obtain ⟨cs, hcs⟩ : ∃ cs, cs = b.map cellOf := ⟨_, rfl⟩
  simp only [← hcs] at hh heq
  have HEQ := Lib.hid heq
  clear heq
  have HHD := Lib.hid hh
  have HCS := Lib.hid hcs
  have hcl : cs.length = 17 := by rw [hcs]; simpa using hbl
  have HCL := Lib.hid (show (b.map cellOf).length = Nat.min 17 17 by rw [← hcs, hcl]; rfl)
  have HB1 := Lib.hid (show Below w.heap.size w ((w.alloc (.cells #[.int .i64 0, .int .i64 0, .int .i64 0] 44)).alloc (.cells ((List.replicate 17 (0 : UInt8)).map cellOf).toArray 70)) from ((Below.refl w.heap.size w).alloc (Nat.le_refl _) _).alloc (by simp) _)
  have HT1 := Lib.hid (show Tri ((w.alloc (.cells #[.int .i64 0, .int .i64 0, .int .i64 0] 44)).alloc (.cells ((List.replicate 17 (0 : UInt8)).map cellOf).toArray 70)) w.heap.size 0 0 0 from (Tri.new w 0 0 0).keep ((Below.refl _ _).alloc (Nat.le_refl _) _))
  obtain ⟨zs, hzs⟩ : ∃ zs, zs = List.replicate 17 (0 : UInt8) := ⟨_, rfl⟩
  have HZS := Lib.hid hzs
  have HA1 := Lib.hid (show Arr ((w.alloc (.cells #[.int .i64 0, .int .i64 0, .int .i64 0] 44)).alloc (.cells ((List.replicate 17 (0 : UInt8)).map cellOf).toArray 70)) (w.heap.size + 1) 70 zs from by
    rw [hzs]
    have h := Arr.new (w.alloc (.cells #[.int .i64 0, .int .i64 0, .int .i64 0] 44)) 70 (List.replicate 17 0)
    rw [World.size_alloc] at h
    exact h)
  have HCF := Lib.hid (show 0 + (b.map cellOf).length ≤ (zs.map cellOf).length by rw [← hcs, hcl, hzs]; simp)
  have HRb := Lib.hid (bytes_more (bytes_keep HR.out HB1.out) HB1.out.size)
  have hwe : w.heap.size < w.heap.size + 1 := by omega
  clear hr hr2 hbl hdl hh hs hcs hzs
  go_enter Try.func20, Try.ntmps20
  go_wp2_with fail
  refine (HSS.out _).mono ?_
  rintro e w0 ⟨rfl, hw⟩; subst w0
  go_wp2_with (refine wpList_copy_splice rfl _ _ _ _ rfl 5 Try.underlying40 size8 _ _ _ _ _ _ rfl rfl (w.heap.size + 1) 0 (zs.map cellOf) 70 HA1.out (b.map cellOf) HCL.out (src_ok (by omega) HRb.out) HCF.out (cells_one _) (w.heap.size + 1) _ (Below.refl _ _) (Nat.le_refl _) ?_)
  intro w2 hg2 hb2
  have HA2 := Lib.hid (show Arr w2 (w.heap.size + 1) 70 b by
    have h := Arr.of_copy hg2
    rw [HZS.out, over_all HBL.out] at h
    exact h)
  have HT2 := Lib.hid (show Tri w2 w.heap.size 0 0 0 from (hb2.block w.heap.size hwe).trans HT1.out)
  have HB2 := Lib.hid (show Below w.heap.size w w2 from HB1.out.trans (hb2.mono (Nat.le_of_lt hwe)))
  clear hg2 hb2 HA1 HT1 HB1 HRb HCL HCF
  obtain ⟨C, hC⟩ : ∃ C, C = w.heap.size + 1 := ⟨_, rfl⟩
  rw [← hC] at HA2 hwe ⊢
  clear hC
  have hld : (loadCellsFrom ⟨C, 0, none⟩ 0 17 #[]).run Try.prog w2 = .ok cs.toArray w2 := by rw [HCS.out]; exact run_load_arr HA2.out HBL.out
  go_wp2_with fail
  refine (HHD.out _).mono ?_
  rintro e w3 ⟨rfl, hb3⟩
  obtain ⟨w4, hst, ht4, hb4⟩ := (Tri.new w3 0 0 0).store k l s
  have hb34 := ((Below.refl w3.heap.size w3).alloc (Nat.le_refl _) (.cells #[.int .i64 0, .int .i64 0, .int .i64 0] 44)).trans hb4
  have hld4 := ht4.load
  have HT4 := Lib.hid ht4
  have HB4 := Lib.hid (below_on (below_on HB2.out hb3) hb34)
  have HZ4 := Lib.hid ((HT2.out.keep hb3).keep hb34)
  have HA4 := Lib.hid ((HA2.out.keep hb3).keep hb34)
  clear hb3 hb4 hb34 ht4 hld
  go_wp2_with fail
  refine (HRG.out _).mono ?_
  rintro e w5 ⟨rfl, hb⟩
  have HT5 := Lib.hid (HT4.out.keep hb)
  have HB5 := Lib.hid (below_on HB4.out hb)
  have HZ5 := Lib.hid (HZ4.out.keep hb)
  have HA5 := Lib.hid (HA4.out.keep hb)
  generalize w3.heap.size = D at HT5 ⊢
  clear hb hst hld4 HT4 HB4 HZ4 HA4 HT2 HB2 HA2
  go_wp2
  have HR5 := Lib.hid (show Bytes w5.drew w5.drew.heap.size A2 16 d from bytes_more (bytes_keep HR2.out HB5.out.drew) HB5.out.size)
  refine wp_region_held_drew (S := (fun w' => (loadCellsFrom ⟨D, 0, none⟩ 0 3 #[]).run Try.prog w' = .ok #[.int .i64 k, .int .i64 l, .int .i64 s] w' ∧ (loadCellsFrom ⟨C, 0, none⟩ 0 17 #[]).run Try.prog w' = .ok cs.toArray w')) (by kernel_rfl) ?_ (fun hHeld => ?_)
  · exact ⟨Tri.load (w := w5.drew) HT5.out, by rw [HCS.out]; exact run_load_arr (w := w5.drew) HA5.out HBL.out⟩
  refine Hand.held_take (i := 0) (d := 26) (v := ?_) rfl rfl (by kernel_rfl) (by kernel_rfl) (by kernel_rfl) (by rfl) ?_ (by assumption) (fun _ _ _ h => h) ?_
  rotate_left
  · intro w hSw
    go_simp
    with_reducible rfl
  try simp only [Act.put, List.setIfInBounds_toArray, List.set_cons_zero, List.set_cons_succ]
  refine Hand.held_take (i := 1) (d := 27) (v := ?_) rfl rfl (by kernel_rfl) (by kernel_rfl) (by kernel_rfl) (by rfl) ?_ (by assumption) (fun _ _ _ h => h) ?_
  rotate_left
  · intro w hSw
    go_simp
    with_reducible rfl
  try simp only [Act.put, List.setIfInBounds_toArray, List.set_cons_zero, List.set_cons_succ]
  refine Hand.held_take (i := 3) (d := 29) (v := ?_) rfl rfl (by kernel_rfl) (by kernel_rfl) (by kernel_rfl) (by rfl) ?_ (by assumption) (fun _ _ _ h => h) ?_
  rotate_left
  · intro w hSw
    go_simp
    with_reducible rfl
  try simp only [Act.put, List.setIfInBounds_toArray, List.set_cons_zero, List.set_cons_succ]
  refine wpAnyH_ready (rs := [2]) (by kernel_rfl) (by simp) ?_
  refine AllReadyH.cons rfl (fun K hK => ?_) AllReadyH.nil
  go_simp
  go_wp2_with (go_at_call 37; refine (HPK.out _ HR5.out).mono ?_; rintro e w6 ⟨rfl, hb⟩; have HT6 := Lib.hid (Tri.keep (w := w5.drew) HT5.out hb); have HA6 := Lib.hid (HA5.out.keepd hb))
  refine hK.out _ _ ?_ (fun hHeld => ?_)
  · exact ⟨HT6.out.load, by rw [HCS.out]; exact run_load_arr HA6.out HBL.out⟩
  clear hK K
  have heq := HEQ.out
  refine Hand.held_take (i := 4) (d := 30) (v := ?_) rfl rfl (by kernel_rfl) (by kernel_rfl) (by kernel_rfl) (by rfl) ?_ (by assumption) (fun _ _ _ h => h) ?_
  rotate_left
  · intro w hSw
    go_simp
    with_reducible rfl
  try simp only [Act.put, List.setIfInBounds_toArray, List.set_cons_zero, List.set_cons_succ]
  refine wpAnyH_done (by kernel_rfl) ?_ _
  have HB6 := Lib.hid (below_on HB5.out.drew hb)
  have hld6 := HT6.out.load
  obtain ⟨w7, hst, ht7, hb7⟩ := (Tri.keep (w := w5.drew) HZ5.out hb).store 0 0 0
  have hld7 := ht7.load
  have HB7 := Lib.hid (HB6.out.trans hb7)
  clear ht7 hb7 hb hHeld heq
  go_wp2
  refine bodyPost_ret (v := .tuple #[oob 0 0 0, .int .i64 4]) ?_ rfl ⟨rfl, HB7.out⟩
  simp [results, Try.results20, go_sem, hld7]

set_option maxHeartbeats 1000000 in
theorem Unpack_yes (A A2 : Option Addr) (c c2 : Nat) (b d : List UInt8) (w : World) (hr : Bytes w w.heap.size A 17 b) (hr2 : Bytes w w.heap.size A2 16 d) (hok : Oob.Ok (Oob.kindOf b) (Oob.lbaOf b) (Oob.stampOf b)) (hf : Oob.full (Oob.kindOf b) (Oob.lbaOf b) (Oob.stampOf b) d = b) :
    Calls Try.prog 20 #[.slice A 17 c, .slice A2 16 c2] w fun e w' => e = .returned (.tuple #[oob (Oob.kindOf b) (Oob.lbaOf b) (Oob.stampOf b), .int .i64 0]) ∧ Below w.heap.size w w' := by
  have hbl := hr.1
  have hdl := hr2.1
  have hh := fun w => head_any b hbl w
  have e1 : bits .or .i64 (IntKind.i64.wrap (Oob.highOf b * 4294967296)) (Oob.lowOf b) = stampI b := rfl
  simp only [e1] at hh
  clear e1
  have hrg := fun w => right_any (Oob.kindOf b) (Oob.lbaOf b) (stampI b) w
  rw [decide_eq_true ((ok_iff b _ _).2 hok)] at hrg
  have hpk := fun w h => pack_any (Oob.kindOf b) (Oob.lbaOf b) (Oob.stampOf b) A2 c2 d w hok h
  have heq := fun w => neq_arr w (Oob.full_len (Oob.kindOf b) (Oob.lbaOf b) (Oob.stampOf b) d) hbl
  rw [decide_eq_true hf] at heq
  rw [stamp_is b _ _ hok] at hrg hh
  clear hok hf
  generalize Oob.full (Oob.kindOf b) (Oob.lbaOf b) (Oob.stampOf b) d = u at hpk heq
  obtain ⟨fs, hfs⟩ : ∃ fs, fs = u.map cellOf := ⟨_, rfl⟩
  simp only [← hfs] at hpk heq
  clear hfs
  generalize Oob.stampOf b = s at hh hrg hpk ⊢
  generalize Oob.kindOf b = k at hh hrg hpk ⊢
  generalize Oob.lbaOf b = l at hh hrg hpk ⊢
  have HRG := Lib.hid hrg
  have HPK := Lib.hid hpk
  clear hrg hpk
  have HR := Lib.hid hr
  have HR2 := Lib.hid hr2
  have HBL := Lib.hid hbl
  have hs := fun w => isSector_any A2 16 c2 w
  simp only [decide_true] at hs
  have HSS := Lib.hid hs
  obtain ⟨cs, hcs⟩ : ∃ cs, cs = b.map cellOf := ⟨_, rfl⟩
  simp only [← hcs] at hh heq
  have HEQ := Lib.hid heq
  clear heq
  have HHD := Lib.hid hh
  have HCS := Lib.hid hcs
  have hcl : cs.length = 17 := by rw [hcs]; simpa using hbl
  have HCL := Lib.hid (show (b.map cellOf).length = Nat.min 17 17 by rw [← hcs, hcl]; rfl)
  have HB1 := Lib.hid (show Below w.heap.size w ((w.alloc (.cells #[.int .i64 0, .int .i64 0, .int .i64 0] 44)).alloc (.cells ((List.replicate 17 (0 : UInt8)).map cellOf).toArray 70)) from ((Below.refl w.heap.size w).alloc (Nat.le_refl _) _).alloc (by simp) _)
  have HT1 := Lib.hid (show Tri ((w.alloc (.cells #[.int .i64 0, .int .i64 0, .int .i64 0] 44)).alloc (.cells ((List.replicate 17 (0 : UInt8)).map cellOf).toArray 70)) w.heap.size 0 0 0 from (Tri.new w 0 0 0).keep ((Below.refl _ _).alloc (Nat.le_refl _) _))
  obtain ⟨zs, hzs⟩ : ∃ zs, zs = List.replicate 17 (0 : UInt8) := ⟨_, rfl⟩
  have HZS := Lib.hid hzs
  have HA1 := Lib.hid (show Arr ((w.alloc (.cells #[.int .i64 0, .int .i64 0, .int .i64 0] 44)).alloc (.cells ((List.replicate 17 (0 : UInt8)).map cellOf).toArray 70)) (w.heap.size + 1) 70 zs from by
    rw [hzs]
    have h := Arr.new (w.alloc (.cells #[.int .i64 0, .int .i64 0, .int .i64 0] 44)) 70 (List.replicate 17 0)
    rw [World.size_alloc] at h
    exact h)
  have HCF := Lib.hid (show 0 + (b.map cellOf).length ≤ (zs.map cellOf).length by rw [← hcs, hcl, hzs]; simp)
  have HRb := Lib.hid (bytes_more (bytes_keep HR.out HB1.out) HB1.out.size)
  have hwe : w.heap.size < w.heap.size + 1 := by omega
  clear hr hr2 hbl hdl hh hs hcs hzs
  go_enter Try.func20, Try.ntmps20
  go_wp2_with fail
  refine (HSS.out _).mono ?_
  rintro e w0 ⟨rfl, hw⟩; subst w0
  go_wp2_with (refine wpList_copy_splice rfl _ _ _ _ rfl 5 Try.underlying40 size8 _ _ _ _ _ _ rfl rfl (w.heap.size + 1) 0 (zs.map cellOf) 70 HA1.out (b.map cellOf) HCL.out (src_ok (by omega) HRb.out) HCF.out (cells_one _) (w.heap.size + 1) _ (Below.refl _ _) (Nat.le_refl _) ?_)
  intro w2 hg2 hb2
  have HA2 := Lib.hid (show Arr w2 (w.heap.size + 1) 70 b by
    have h := Arr.of_copy hg2
    rw [HZS.out, over_all HBL.out] at h
    exact h)
  have HT2 := Lib.hid (show Tri w2 w.heap.size 0 0 0 from (hb2.block w.heap.size hwe).trans HT1.out)
  have HB2 := Lib.hid (show Below w.heap.size w w2 from HB1.out.trans (hb2.mono (Nat.le_of_lt hwe)))
  clear hg2 hb2 HA1 HT1 HB1 HRb HCL HCF
  obtain ⟨C, hC⟩ : ∃ C, C = w.heap.size + 1 := ⟨_, rfl⟩
  rw [← hC] at HA2 hwe ⊢
  clear hC
  have hld : (loadCellsFrom ⟨C, 0, none⟩ 0 17 #[]).run Try.prog w2 = .ok cs.toArray w2 := by rw [HCS.out]; exact run_load_arr HA2.out HBL.out
  go_wp2_with fail
  refine (HHD.out _).mono ?_
  rintro e w3 ⟨rfl, hb3⟩
  obtain ⟨w4, hst, ht4, hb4⟩ := (Tri.new w3 0 0 0).store k l s
  have hb34 := ((Below.refl w3.heap.size w3).alloc (Nat.le_refl _) (.cells #[.int .i64 0, .int .i64 0, .int .i64 0] 44)).trans hb4
  have hld4 := ht4.load
  have HT4 := Lib.hid ht4
  have HB4 := Lib.hid (below_on (below_on HB2.out hb3) hb34)
  have HZ4 := Lib.hid ((HT2.out.keep hb3).keep hb34)
  have HA4 := Lib.hid ((HA2.out.keep hb3).keep hb34)
  clear hb3 hb4 hb34 ht4 hld
  go_wp2_with fail
  refine (HRG.out _).mono ?_
  rintro e w5 ⟨rfl, hb⟩
  have HT5 := Lib.hid (HT4.out.keep hb)
  have HB5 := Lib.hid (below_on HB4.out hb)
  have HZ5 := Lib.hid (HZ4.out.keep hb)
  have HA5 := Lib.hid (HA4.out.keep hb)
  generalize w3.heap.size = D at HT5 ⊢
  clear hb hst hld4 HT4 HB4 HZ4 HA4 HT2 HB2 HA2
  go_wp2
  have HR5 := Lib.hid (show Bytes w5.drew w5.drew.heap.size A2 16 d from bytes_more (bytes_keep HR2.out HB5.out.drew) HB5.out.size)
  refine wp_region_held_drew (S := (fun w' => (loadCellsFrom ⟨D, 0, none⟩ 0 3 #[]).run Try.prog w' = .ok #[.int .i64 k, .int .i64 l, .int .i64 s] w' ∧ (loadCellsFrom ⟨C, 0, none⟩ 0 17 #[]).run Try.prog w' = .ok cs.toArray w')) (by kernel_rfl) ?_ (fun hHeld => ?_)
  · exact ⟨Tri.load (w := w5.drew) HT5.out, by rw [HCS.out]; exact run_load_arr (w := w5.drew) HA5.out HBL.out⟩
  refine Hand.held_take (i := 0) (d := 26) (v := ?_) rfl rfl (by kernel_rfl) (by kernel_rfl) (by kernel_rfl) (by rfl) ?_ (by assumption) (fun _ _ _ h => h) ?_
  rotate_left
  · intro w hSw
    go_simp
    with_reducible rfl
  try simp only [Act.put, List.setIfInBounds_toArray, List.set_cons_zero, List.set_cons_succ]
  refine Hand.held_take (i := 1) (d := 27) (v := ?_) rfl rfl (by kernel_rfl) (by kernel_rfl) (by kernel_rfl) (by rfl) ?_ (by assumption) (fun _ _ _ h => h) ?_
  rotate_left
  · intro w hSw
    go_simp
    with_reducible rfl
  try simp only [Act.put, List.setIfInBounds_toArray, List.set_cons_zero, List.set_cons_succ]
  refine Hand.held_take (i := 3) (d := 29) (v := ?_) rfl rfl (by kernel_rfl) (by kernel_rfl) (by kernel_rfl) (by rfl) ?_ (by assumption) (fun _ _ _ h => h) ?_
  rotate_left
  · intro w hSw
    go_simp
    with_reducible rfl
  try simp only [Act.put, List.setIfInBounds_toArray, List.set_cons_zero, List.set_cons_succ]
  refine wpAnyH_ready (rs := [2]) (by kernel_rfl) (by simp) ?_
  refine AllReadyH.cons rfl (fun K hK => ?_) AllReadyH.nil
  go_simp
  go_wp2_with (go_at_call 37; refine (HPK.out _ HR5.out).mono ?_; rintro e w6 ⟨rfl, hb⟩; have HT6 := Lib.hid (Tri.keep (w := w5.drew) HT5.out hb); have HA6 := Lib.hid (HA5.out.keepd hb))
  refine hK.out _ _ ?_ (fun hHeld => ?_)
  · exact ⟨HT6.out.load, by rw [HCS.out]; exact run_load_arr HA6.out HBL.out⟩
  clear hK K
  have heq := HEQ.out
  refine Hand.held_take (i := 4) (d := 30) (v := ?_) rfl rfl (by kernel_rfl) (by kernel_rfl) (by kernel_rfl) (by rfl) ?_ (by assumption) (fun _ _ _ h => h) ?_
  rotate_left
  · intro w hSw
    go_simp
    with_reducible rfl
  try simp only [Act.put, List.setIfInBounds_toArray, List.set_cons_zero, List.set_cons_succ]
  refine wpAnyH_done (by kernel_rfl) ?_ _
  have HB6 := Lib.hid (below_on HB5.out.drew hb)
  have hld6 := HT6.out.load
  obtain ⟨w7, hst, ht7, hb7⟩ := (Tri.keep (w := w5.drew) HZ5.out hb).store k l s
  have hld7 := ht7.load
  have HB7 := Lib.hid (HB6.out.trans hb7)
  clear ht7 hb7 hb hHeld heq
  go_wp2
  refine bodyPost_ret (v := .tuple #[oob k l s, .int .i64 0]) ?_ rfl ⟨rfl, HB7.out⟩
  simp [results, Try.results20, go_sem, hld7]

/-- Unpack, whatever it is given. -/
theorem Unpack_any (A A2 : Option Addr) (n c m c2 : Nat) (b d : List UInt8) (w : World) (hr : Bytes w w.heap.size A n b) (hr2 : Bytes w w.heap.size A2 m d) :
    Calls Try.prog 20 #[.slice A n c, .slice A2 m c2] w fun e w' => e = .returned (.tuple #[oob (Oob.unp b d).1 (Oob.unp b d).2.1 (Oob.unp b d).2.2.1, .int .i64 (Oob.unp b d).2.2.2]) ∧ Below w.heap.size w w' := by
  have hn := hr.1
  have hm := hr2.1
  by_cases h : n = 17 ∧ m = 16
  · obtain ⟨rfl, rfl⟩ := h
    by_cases hok : Oob.Ok (Oob.kindOf b) (Oob.lbaOf b) (Oob.stampOf b)
    · by_cases hf : Oob.full (Oob.kindOf b) (Oob.lbaOf b) (Oob.stampOf b) d = b
      · rw [Oob.unp_ok ⟨hn, hm, hok⟩ hf]
        exact Unpack_yes A A2 c c2 b d w hr hr2 hok hf
      · rw [Oob.unp_sum ⟨hn, hm, hok⟩ hf]
        exact Unpack_sum A A2 c c2 b d w hr hr2 hok hf
    · rw [Oob.unp_form (fun h => hok h.2.2)]
      exact Unpack_bad A A2 c c2 b d w hr hr2 hok
  · rw [Oob.unp_form (fun h2 => h ⟨by omega, by omega⟩)]
    exact Unpack_len A A2 n c m c2 w h


end Go.Proofs.Yteonjdigcecceaa.OobPkg
