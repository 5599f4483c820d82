/-
  What each function of package mark does, the last part: Read.
-/
import Derived.Test.YtbdompmhgjkgbaaMarkSector
import Derived.Test.YtbdompmhgjkgbaaArrEq
namespace Go.Proofs.Ytbdompmhgjkgbaa.MarkPkg
open Go.RowKit Go.Proofs.Ytbdompmhgjkgbaa.OobPkg
set_option maxRecDepth 4000

/-- The stamp as the program puts it together. -/
def stampI (b : List UInt8) : Int := bits .or .i64 (IntKind.i64.wrap (Mark.highOf b * 4294967296)) (Mark.lowOf b)

theorem stamp_wrap (b : List UInt8) : stampI b = IntKind.i64.wrap (Mark.stampOf b) := by
  have hh := Mark.high_bd b
  have hl := Mark.low_bd b
  obtain ⟨h, hhe⟩ := Int.eq_ofNat_of_zero_le hh.1
  obtain ⟨l, hle⟩ := Int.eq_ofNat_of_zero_le hl.1
  unfold stampI Mark.stampOf
  rw [hhe, hle]
  rw [hhe] at hh
  rw [hle] at hl
  have e1 : BitVec.ofInt 64 (IntKind.i64.wrap ((h : Int) * 4294967296)) = BitVec.ofNat 64 (h * 4294967296) := by
    apply BitVec.eq_of_toNat_eq
    rw [BitVec.toNat_ofInt, BitVec.toNat_ofNat, IntKind.wrap_i64]
    omega
  show IntKind.i64.wrap ((BitVec.ofInt 64 (IntKind.i64.wrap ((h : Int) * 4294967296)) ||| BitVec.ofInt 64 (l : Int)).toNat : Int) = _
  rw [BitVec.toNat_or, e1, ofInt_u64 l (by omega), BitVec.toNat_ofNat]
  congr 1
  have e2 : h * 4294967296 % 2 ^ 64 = h <<< 32 := by rw [Nat.shiftLeft_eq]; omega
  rw [e2, ← Nat.shiftLeft_add_eq_or_of_lt (show l < 2 ^ 32 by omega), Nat.shiftLeft_eq]
  omega

theorem ok_iff (b : List UInt8) (k l : Int) : Mark.Ok k l (stampI b) ↔ Mark.Ok k l (Mark.stampOf b) := by
  have hh := Mark.high_bd b
  have hl := Mark.low_bd b
  have e := stamp_wrap b
  rw [IntKind.wrap_i64] at e
  unfold Mark.Ok
  unfold Mark.stampOf at *
  omega

theorem stamp_is (b : List UInt8) (k l : Int) (h : Mark.Ok k l (Mark.stampOf b)) : stampI b = Mark.stampOf b := by
  have hh := Mark.high_bd b
  have hl := Mark.low_bd b
  have e := stamp_wrap b
  rw [IntKind.wrap_i64] at e
  unfold Mark.Ok at h
  unfold Mark.stampOf at *
  omega

theorem neq_arr (w : World) {xs ys : List UInt8} (hx : xs.length = 16) (hy : ys.length = 16) :
    (Op.equalIn 10000 42 (.agg (xs.map cellOf).toArray) (.agg (ys.map cellOf).toArray)).run Try.prog w = .ok (decide (xs = ys)) w :=
  run_eq_arr w 9998 Try.underlying42 Try.underlying5 (i := Try.t5) (by kernel_rfl) (by kernel_rfl) hx hy

theorem over_all {b : List UInt8} (h : b.length = 16) : over (List.replicate 16 0) 0 b = b := by
  simp [over, h]

theorem Read_len (A : Option Addr) (n c : Nat) (w : World) (h : n ≠ 16) :
    Calls Try.prog 15 #[.slice A n c] w fun e w' => e = .returned (.tuple #[tri 0 0 0, .int .i64 3]) ∧ Below w.heap.size w w' := by
  have HB := Lib.hid ((Below.refl w.heap.size w).alloc (Nat.le_refl _) (.cells #[.int .i64 0, .int .i64 0, .int .i64 0] 23))
  have hn2 : ¬ (n : Int) = 16 := by omega
  clear h
  go_enter Try.func15, Try.ntmps15
  go_wp2
  refine bodyPost_ret (v := .tuple #[tri 0 0 0, .int .i64 3]) ?_ rfl ⟨rfl, HB.out⟩
  simp [results, Try.results15, go_sem]

attribute [-go_sem] loadCellsFrom storeCells

set_option maxHeartbeats 1000000 in
theorem Read_bad (A : Option Addr) (c : Nat) (b : List UInt8) (w : World) (hr : Bytes w w.heap.size A 16 b) (hok : ¬ Mark.Ok (Mark.lineOf b) (Mark.wearOf b) (Mark.stampOf b)) :
    Calls Try.prog 15 #[.slice A 16 c] w fun e w' => e = .returned (.tuple #[tri 0 0 0, .int .i64 3]) ∧ Below w.heap.size w w' := by
  have hbl := hr.1
  have hh := fun w => decode_any b hbl w
  have e1 : bits .or .i64 (IntKind.i64.wrap (Mark.highOf b * 4294967296)) (Mark.lowOf b) = stampI b := rfl
  simp only [e1] at hh
  clear e1
  have hrg := fun w => right_no (fun h => hok ((ok_iff b _ _).1 h)) w
  clear hok
  generalize stampI b = s at hh hrg
  generalize Mark.lineOf b = k at hh hrg
  generalize Mark.wearOf b = l at hh hrg
  have HRG := Lib.hid hrg
  clear hrg
  have HR := Lib.hid hr
  have HBL := Lib.hid hbl
  obtain ⟨cs, hcs⟩ : ∃ cs, cs = b.map cellOf := ⟨_, rfl⟩
  simp only [← hcs] at hh
  have HHD := Lib.hid hh
  have HCS := Lib.hid hcs
  have hcl : cs.length = 16 := by rw [hcs]; simpa using hbl
  have HCL := Lib.hid (show (b.map cellOf).length = Nat.min 16 16 by rw [← hcs, hcl]; rfl)
  have HB1 := Lib.hid (show Below w.heap.size w ((w.alloc (.cells #[.int .i64 0, .int .i64 0, .int .i64 0] 23)).alloc (.cells ((List.replicate 16 (0 : UInt8)).map cellOf).toArray 42)) from ((Below.refl w.heap.size w).alloc (Nat.le_refl _) _).alloc (by simp) _)
  have HT1 := Lib.hid (show Three 23 ((w.alloc (.cells #[.int .i64 0, .int .i64 0, .int .i64 0] 23)).alloc (.cells ((List.replicate 16 (0 : UInt8)).map cellOf).toArray 42)) w.heap.size 0 0 0 from (Three.new 23 w 0 0 0).old _)
  obtain ⟨zs, hzs⟩ : ∃ zs, zs = List.replicate 16 (0 : UInt8) := ⟨_, rfl⟩
  have HZS := Lib.hid hzs
  have HA1 := Lib.hid (show Arr ((w.alloc (.cells #[.int .i64 0, .int .i64 0, .int .i64 0] 23)).alloc (.cells ((List.replicate 16 (0 : UInt8)).map cellOf).toArray 42)) (w.heap.size + 1) 42 zs from by
    rw [hzs]
    have h := Arr.new (w.alloc (.cells #[.int .i64 0, .int .i64 0, .int .i64 0] 23)) 42 (List.replicate 16 0)
    rw [World.size_alloc] at h
    exact h)
  have HCF := Lib.hid (show 0 + (b.map cellOf).length ≤ (zs.map cellOf).length by rw [← hcs, hcl, hzs]; simp)
  have HRb := Lib.hid (bytes_more (bytes_keep HR.out HB1.out) HB1.out.size)
  have hwe : w.heap.size < w.heap.size + 1 := by omega
  clear hr hbl hh hcs hzs
  go_enter Try.func15, Try.ntmps15
  go_wp2_with (refine wpList_copy_splice rfl _ _ _ _ rfl 5 Try.underlying25 size8 _ _ _ _ _ _ rfl rfl (w.heap.size + 1) 0 (zs.map cellOf) 42 HA1.out (b.map cellOf) HCL.out (src_ok (by omega) HRb.out) HCF.out (cells_one _) (w.heap.size + 1) _ (Below.refl _ _) (Nat.le_refl _) ?_)
  intro w2 hg2 hb2
  have HA2 := Lib.hid (show Arr w2 (w.heap.size + 1) 42 b by
    have h := Arr.of_copy hg2
    rw [HZS.out, over_all HBL.out] at h
    exact h)
  have HT2 := Lib.hid (show Three 23 w2 w.heap.size 0 0 0 from (hb2.block w.heap.size hwe).trans HT1.out)
  have HB2 := Lib.hid (show Below w.heap.size w w2 from HB1.out.trans (hb2.mono (Nat.le_of_lt hwe)))
  clear hg2 hb2 HA1 HT1 HB1 HRb HCL HCF
  obtain ⟨C, hC⟩ : ∃ C, C = w.heap.size + 1 := ⟨_, rfl⟩
  rw [← hC] at HA2 hwe ⊢
  clear hC
  have hld : (loadCellsFrom ⟨C, 0, none⟩ 0 16 #[]).run Try.prog w2 = .ok cs.toArray w2 := by rw [HCS.out]; exact run_load_arr HA2.out HBL.out
  go_wp2_with fail
  refine (HHD.out _).mono ?_
  rintro e w3 ⟨rfl, hb3⟩
  obtain ⟨w4, hst, ht4, hb4⟩ := (Three.new 23 w3 0 0 0).store Try.prog k l s
  have hb34 := ((Below.refl w3.heap.size w3).alloc (Nat.le_refl _) (.cells #[.int .i64 0, .int .i64 0, .int .i64 0] 23)).trans hb4
  have HT4 := Lib.hid ht4
  have HB4 := Lib.hid (below_on (below_on HB2.out hb3) hb34)
  have HZ4 := Lib.hid ((HT2.out.keep hb3).keep hb34)
  have HA4 := Lib.hid ((HA2.out.keep hb3).keep hb34)
  clear hb3 hb4 hb34 ht4 hld
  go_wp2
  clear hst
  generalize w3.heap.size = D at HT4 ⊢
  refine wp_region_held_drew (S := (fun w' => (loadCellsFrom ⟨D, 0, none⟩ 0 3 #[]).run Try.prog w' = .ok #[.int .i64 k, .int .i64 l, .int .i64 s] w' ∧ (loadCellsFrom ⟨C, 0, none⟩ 0 16 #[]).run Try.prog w' = .ok cs.toArray w')) (by kernel_rfl) ?_ (fun hHeld => ?_)
  · exact ⟨Three.load (w := w4.drew) HT4.out, by rw [HCS.out]; exact run_load_arr (w := w4.drew) HA4.out HBL.out⟩
  refine Hand.held_take (i := 0) (d := 15) (v := ?_) rfl rfl (by kernel_rfl) (by kernel_rfl) (by kernel_rfl) (by rfl) ?_ (by assumption) (fun _ _ _ h => h) ?_
  rotate_left
  · intro w hSw
    go_simp
    with_reducible rfl
  try simp only [Act.put, List.setIfInBounds_toArray, List.set_cons_zero, List.set_cons_succ]
  refine wpAnyH_ready (rs := [1]) (by kernel_rfl) (by simp) ?_
  refine AllReadyH.cons rfl (fun K hK => ?_) AllReadyH.nil
  go_simp
  go_wp2_with (go_at_call 13; refine (HRG.out _).mono ?_; rintro e w5 ⟨rfl, hb⟩; have HT5 := Lib.hid (HT4.out.keepd hb); have HA5 := Lib.hid (HA4.out.keepd hb); have HZ5 := Lib.hid (HZ4.out.keepd hb); have HB5 := Lib.hid (below_on HB4.out.drew hb); clear hb)
  refine hK.out _ _ ?_ (fun hHeld => ?_)
  · exact ⟨Three.load HT5.out, by rw [HCS.out]; exact run_load_arr HA5.out HBL.out⟩
  clear hK K
  refine Hand.held_take (i := 2) (d := 17) (v := ?_) rfl rfl (by kernel_rfl) (by kernel_rfl) (by kernel_rfl) (by rfl) ?_ (by assumption) (fun _ _ _ h => h) ?_
  rotate_left
  · intro w hSw
    go_simp
    with_reducible rfl
  try simp only [Act.put, List.setIfInBounds_toArray, List.set_cons_zero, List.set_cons_succ]
  refine Hand.held_take (i := 3) (d := 18) (v := ?_) rfl rfl (by kernel_rfl) (by kernel_rfl) (by kernel_rfl) (by rfl) ?_ (by assumption) (fun _ _ _ h => h) ?_
  rotate_left
  · intro w hSw
    go_simp
    with_reducible rfl
  try simp only [Act.put, List.setIfInBounds_toArray, List.set_cons_zero, List.set_cons_succ]
  refine Hand.held_skip (i := 4) (d := 19) rfl rfl (by kernel_rfl) (by kernel_rfl) (by kernel_rfl) (by rfl) (by assumption) (fun _ _ _ h => h) ?_
  try simp only [Act.put, List.setIfInBounds_toArray, List.set_cons_zero, List.set_cons_succ]
  refine Hand.held_skip (i := 5) (d := 20) rfl rfl (by kernel_rfl) (by kernel_rfl) (by kernel_rfl) (by rfl) (by assumption) (fun _ _ _ h => h) ?_
  try simp only [Act.put, List.setIfInBounds_toArray, List.set_cons_zero, List.set_cons_succ]
  refine Hand.held_skip (i := 6) (d := 21) rfl rfl (by kernel_rfl) (by kernel_rfl) (by kernel_rfl) (by rfl) (by assumption) (fun _ _ _ h => h) ?_
  try simp only [Act.put, List.setIfInBounds_toArray, List.set_cons_zero, List.set_cons_succ]
  refine Hand.held_skip (i := 7) (d := 22) rfl rfl (by kernel_rfl) (by kernel_rfl) (by kernel_rfl) (by rfl) (by assumption) (fun _ _ _ h => h) ?_
  try simp only [Act.put, List.setIfInBounds_toArray, List.set_cons_zero, List.set_cons_succ]
  refine Hand.held_take (i := 8) (d := 23) (v := ?_) rfl rfl (by kernel_rfl) (by kernel_rfl) (by kernel_rfl) (by rfl) ?_ (by assumption) (fun _ _ _ h => h) ?_
  rotate_left
  · intro w hSw
    go_simp
    with_reducible rfl
  try simp only [Act.put, List.setIfInBounds_toArray, List.set_cons_zero, List.set_cons_succ]
  refine wpAnyH_done (by kernel_rfl) ?_ _
  have hldn := HT5.out.load (P := Try.prog)
  obtain ⟨w7, hst, ht7, hb7⟩ := HZ5.out.store Try.prog 0 0 0
  have hld7 := ht7.load (P := Try.prog)
  have HB7 := Lib.hid (HB5.out.trans hb7)
  clear ht7 hb7 hHeld
  go_wp2
  refine bodyPost_ret (v := .tuple #[tri 0 0 0, .int .i64 3]) ?_ rfl ⟨rfl, HB7.out⟩
  simp [results, Try.results15, go_sem, hld7]

set_option maxHeartbeats 1000000 in
theorem Read_other (A : Option Addr) (c : Nat) (b : List UInt8) (w : World) (hr : Bytes w w.heap.size A 16 b) (hok : Mark.Ok (Mark.lineOf b) (Mark.wearOf b) (Mark.stampOf b)) (hf : ¬ Mark.code (Mark.lineOf b) (Mark.wearOf b) (Mark.stampOf b) = b) :
    Calls Try.prog 15 #[.slice A 16 c] w fun e w' => e = .returned (.tuple #[tri 0 0 0, .int .i64 3]) ∧ Below w.heap.size w w' := by
  have hbl := hr.1
  have hh := fun w => decode_any b hbl w
  have e1 : bits .or .i64 (IntKind.i64.wrap (Mark.highOf b * 4294967296)) (Mark.lowOf b) = stampI b := rfl
  simp only [e1] at hh
  clear e1
  rw [stamp_is b _ _ hok] at hh
  have hrg := fun w => right_yes hok w
  have hpk := fun w => encode_any (Mark.lineOf b) (Mark.wearOf b) (Mark.stampOf b) w hok
  have heq := fun w => neq_arr w (Mark.code_len (Mark.lineOf b) (Mark.wearOf b) (Mark.stampOf b)) hbl
  rw [decide_eq_false hf] at heq
  clear hok hf
  generalize Mark.code (Mark.lineOf b) (Mark.wearOf b) (Mark.stampOf b) = u at hpk heq
  obtain ⟨fs, hfs⟩ : ∃ fs, fs = u.map cellOf := ⟨_, rfl⟩
  simp only [← hfs] at hpk heq
  clear hfs
  generalize Mark.stampOf b = s at hh hrg hpk 
  generalize Mark.lineOf b = k at hh hrg hpk 
  generalize Mark.wearOf b = l at hh hrg hpk 
  have HPK := Lib.hid hpk
  clear hpk
  have HRG := Lib.hid hrg
  clear hrg
  have HR := Lib.hid hr
  have HBL := Lib.hid hbl
  obtain ⟨cs, hcs⟩ : ∃ cs, cs = b.map cellOf := ⟨_, rfl⟩
  simp only [← hcs] at hh heq
  have HEQ := Lib.hid heq
  clear heq
  have HHD := Lib.hid hh
  have HCS := Lib.hid hcs
  have hcl : cs.length = 16 := by rw [hcs]; simpa using hbl
  have HCL := Lib.hid (show (b.map cellOf).length = Nat.min 16 16 by rw [← hcs, hcl]; rfl)
  have HB1 := Lib.hid (show Below w.heap.size w ((w.alloc (.cells #[.int .i64 0, .int .i64 0, .int .i64 0] 23)).alloc (.cells ((List.replicate 16 (0 : UInt8)).map cellOf).toArray 42)) from ((Below.refl w.heap.size w).alloc (Nat.le_refl _) _).alloc (by simp) _)
  have HT1 := Lib.hid (show Three 23 ((w.alloc (.cells #[.int .i64 0, .int .i64 0, .int .i64 0] 23)).alloc (.cells ((List.replicate 16 (0 : UInt8)).map cellOf).toArray 42)) w.heap.size 0 0 0 from (Three.new 23 w 0 0 0).old _)
  obtain ⟨zs, hzs⟩ : ∃ zs, zs = List.replicate 16 (0 : UInt8) := ⟨_, rfl⟩
  have HZS := Lib.hid hzs
  have HA1 := Lib.hid (show Arr ((w.alloc (.cells #[.int .i64 0, .int .i64 0, .int .i64 0] 23)).alloc (.cells ((List.replicate 16 (0 : UInt8)).map cellOf).toArray 42)) (w.heap.size + 1) 42 zs from by
    rw [hzs]
    have h := Arr.new (w.alloc (.cells #[.int .i64 0, .int .i64 0, .int .i64 0] 23)) 42 (List.replicate 16 0)
    rw [World.size_alloc] at h
    exact h)
  have HCF := Lib.hid (show 0 + (b.map cellOf).length ≤ (zs.map cellOf).length by rw [← hcs, hcl, hzs]; simp)
  have HRb := Lib.hid (bytes_more (bytes_keep HR.out HB1.out) HB1.out.size)
  have hwe : w.heap.size < w.heap.size + 1 := by omega
  clear hr hbl hh hcs hzs
  go_enter Try.func15, Try.ntmps15
  go_wp2_with (refine wpList_copy_splice rfl _ _ _ _ rfl 5 Try.underlying25 size8 _ _ _ _ _ _ rfl rfl (w.heap.size + 1) 0 (zs.map cellOf) 42 HA1.out (b.map cellOf) HCL.out (src_ok (by omega) HRb.out) HCF.out (cells_one _) (w.heap.size + 1) _ (Below.refl _ _) (Nat.le_refl _) ?_)
  intro w2 hg2 hb2
  have HA2 := Lib.hid (show Arr w2 (w.heap.size + 1) 42 b by
    have h := Arr.of_copy hg2
    rw [HZS.out, over_all HBL.out] at h
    exact h)
  have HT2 := Lib.hid (show Three 23 w2 w.heap.size 0 0 0 from (hb2.block w.heap.size hwe).trans HT1.out)
  have HB2 := Lib.hid (show Below w.heap.size w w2 from HB1.out.trans (hb2.mono (Nat.le_of_lt hwe)))
  clear hg2 hb2 HA1 HT1 HB1 HRb HCL HCF
  obtain ⟨C, hC⟩ : ∃ C, C = w.heap.size + 1 := ⟨_, rfl⟩
  rw [← hC] at HA2 hwe ⊢
  clear hC
  have hld : (loadCellsFrom ⟨C, 0, none⟩ 0 16 #[]).run Try.prog w2 = .ok cs.toArray w2 := by rw [HCS.out]; exact run_load_arr HA2.out HBL.out
  go_wp2_with fail
  refine (HHD.out _).mono ?_
  rintro e w3 ⟨rfl, hb3⟩
  obtain ⟨w4, hst, ht4, hb4⟩ := (Three.new 23 w3 0 0 0).store Try.prog k l s
  have hb34 := ((Below.refl w3.heap.size w3).alloc (Nat.le_refl _) (.cells #[.int .i64 0, .int .i64 0, .int .i64 0] 23)).trans hb4
  have HT4 := Lib.hid ht4
  have HB4 := Lib.hid (below_on (below_on HB2.out hb3) hb34)
  have HZ4 := Lib.hid ((HT2.out.keep hb3).keep hb34)
  have HA4 := Lib.hid ((HA2.out.keep hb3).keep hb34)
  clear hb3 hb4 hb34 ht4 hld
  go_wp2
  clear hst
  generalize w3.heap.size = D at HT4 ⊢
  refine wp_region_held_drew (S := (fun w' => (loadCellsFrom ⟨D, 0, none⟩ 0 3 #[]).run Try.prog w' = .ok #[.int .i64 k, .int .i64 l, .int .i64 s] w' ∧ (loadCellsFrom ⟨C, 0, none⟩ 0 16 #[]).run Try.prog w' = .ok cs.toArray w')) (by kernel_rfl) ?_ (fun hHeld => ?_)
  · exact ⟨Three.load (w := w4.drew) HT4.out, by rw [HCS.out]; exact run_load_arr (w := w4.drew) HA4.out HBL.out⟩
  refine Hand.held_take (i := 0) (d := 15) (v := ?_) rfl rfl (by kernel_rfl) (by kernel_rfl) (by kernel_rfl) (by rfl) ?_ (by assumption) (fun _ _ _ h => h) ?_
  rotate_left
  · intro w hSw
    go_simp
    with_reducible rfl
  try simp only [Act.put, List.setIfInBounds_toArray, List.set_cons_zero, List.set_cons_succ]
  refine wpAnyH_ready (rs := [1]) (by kernel_rfl) (by simp) ?_
  refine AllReadyH.cons rfl (fun K hK => ?_) AllReadyH.nil
  go_simp
  go_wp2_with (go_at_call 13; refine (HRG.out _).mono ?_; rintro e w5 ⟨rfl, hb⟩; have HT5 := Lib.hid (HT4.out.keepd hb); have HA5 := Lib.hid (HA4.out.keepd hb); have HZ5 := Lib.hid (HZ4.out.keepd hb); have HB5 := Lib.hid (below_on HB4.out.drew hb); clear hb)
  refine hK.out _ _ ?_ (fun hHeld => ?_)
  · exact ⟨Three.load HT5.out, by rw [HCS.out]; exact run_load_arr HA5.out HBL.out⟩
  clear hK K
  refine Hand.held_take (i := 2) (d := 17) (v := ?_) rfl rfl (by kernel_rfl) (by kernel_rfl) (by kernel_rfl) (by rfl) ?_ (by assumption) (fun _ _ _ h => h) ?_
  rotate_left
  · intro w hSw
    go_simp
    with_reducible rfl
  try simp only [Act.put, List.setIfInBounds_toArray, List.set_cons_zero, List.set_cons_succ]
  refine Hand.held_take (i := 3) (d := 18) (v := ?_) rfl rfl (by kernel_rfl) (by kernel_rfl) (by kernel_rfl) (by rfl) ?_ (by assumption) (fun _ _ _ h => h) ?_
  rotate_left
  · intro w hSw
    go_simp
    with_reducible rfl
  try simp only [Act.put, List.setIfInBounds_toArray, List.set_cons_zero, List.set_cons_succ]
  refine Hand.held_take (i := 4) (d := 19) (v := ?_) rfl rfl (by kernel_rfl) (by kernel_rfl) (by kernel_rfl) (by rfl) ?_ (by assumption) (fun _ _ _ h => h) ?_
  rotate_left
  · intro w hSw
    go_simp
    with_reducible rfl
  try simp only [Act.put, List.setIfInBounds_toArray, List.set_cons_zero, List.set_cons_succ]
  refine Hand.held_take (i := 6) (d := 21) (v := ?_) rfl rfl (by kernel_rfl) (by kernel_rfl) (by kernel_rfl) (by rfl) ?_ (by assumption) (fun _ _ _ h => h) ?_
  rotate_left
  · intro w hSw
    go_simp
    with_reducible rfl
  try simp only [Act.put, List.setIfInBounds_toArray, List.set_cons_zero, List.set_cons_succ]
  refine wpAnyH_ready (rs := [5]) (by kernel_rfl) (by simp) ?_
  refine AllReadyH.cons rfl (fun K hK => ?_) AllReadyH.nil
  go_simp
  go_wp2_with (go_at_call 17; refine (HPK.out _).mono ?_; rintro e w6 ⟨rfl, hb⟩; have HT6 := Lib.hid (HT5.out.keep hb); have HA6 := Lib.hid (HA5.out.keep hb); have HZ6 := Lib.hid (HZ5.out.keep hb); have HB6 := Lib.hid (below_on HB5.out hb); clear hb)
  refine hK.out _ _ ?_ (fun hHeld => ?_)
  · exact ⟨Three.load HT6.out, by rw [HCS.out]; exact run_load_arr HA6.out HBL.out⟩
  clear hK K
  have heq := HEQ.out
  refine Hand.held_take (i := 7) (d := 22) (v := ?_) rfl rfl (by kernel_rfl) (by kernel_rfl) (by kernel_rfl) (by rfl) ?_ (by assumption) (fun _ _ _ h => h) ?_
  rotate_left
  · intro w hSw
    go_simp
    with_reducible rfl
  try simp only [Act.put, List.setIfInBounds_toArray, List.set_cons_zero, List.set_cons_succ]
  refine Hand.held_take (i := 8) (d := 23) (v := ?_) rfl rfl (by kernel_rfl) (by kernel_rfl) (by kernel_rfl) (by rfl) ?_ (by assumption) (fun _ _ _ h => h) ?_
  rotate_left
  · intro w hSw
    go_simp
    with_reducible rfl
  try simp only [Act.put, List.setIfInBounds_toArray, List.set_cons_zero, List.set_cons_succ]
  refine wpAnyH_done (by kernel_rfl) ?_ _
  have hldn := HT6.out.load (P := Try.prog)
  obtain ⟨w7, hst, ht7, hb7⟩ := HZ6.out.store Try.prog 0 0 0
  have hld7 := ht7.load (P := Try.prog)
  have HB7 := Lib.hid (HB6.out.trans hb7)
  clear ht7 hb7 hHeld heq
  go_wp2
  refine bodyPost_ret (v := .tuple #[tri 0 0 0, .int .i64 3]) ?_ rfl ⟨rfl, HB7.out⟩
  simp [results, Try.results15, go_sem, hld7]

set_option maxHeartbeats 1000000 in
theorem Read_yes (A : Option Addr) (c : Nat) (b : List UInt8) (w : World) (hr : Bytes w w.heap.size A 16 b) (hok : Mark.Ok (Mark.lineOf b) (Mark.wearOf b) (Mark.stampOf b)) (hf : Mark.code (Mark.lineOf b) (Mark.wearOf b) (Mark.stampOf b) = b) :
    Calls Try.prog 15 #[.slice A 16 c] w fun e w' => e = .returned (.tuple #[tri (Mark.lineOf b) (Mark.wearOf b) (Mark.stampOf b), .int .i64 0]) ∧ Below w.heap.size w w' := by
  have hbl := hr.1
  have hh := fun w => decode_any b hbl w
  have e1 : bits .or .i64 (IntKind.i64.wrap (Mark.highOf b * 4294967296)) (Mark.lowOf b) = stampI b := rfl
  simp only [e1] at hh
  clear e1
  rw [stamp_is b _ _ hok] at hh
  have hrg := fun w => right_yes hok w
  have hpk := fun w => encode_any (Mark.lineOf b) (Mark.wearOf b) (Mark.stampOf b) w hok
  have heq := fun w => neq_arr w (Mark.code_len (Mark.lineOf b) (Mark.wearOf b) (Mark.stampOf b)) hbl
  rw [decide_eq_true hf] at heq
  clear hok hf
  generalize Mark.code (Mark.lineOf b) (Mark.wearOf b) (Mark.stampOf b) = u at hpk heq
  obtain ⟨fs, hfs⟩ : ∃ fs, fs = u.map cellOf := ⟨_, rfl⟩
  simp only [← hfs] at hpk heq
  clear hfs
  generalize Mark.stampOf b = s at hh hrg hpk ⊢
  generalize Mark.lineOf b = k at hh hrg hpk ⊢
  generalize Mark.wearOf b = l at hh hrg hpk ⊢
  have HPK := Lib.hid hpk
  clear hpk
  have HRG := Lib.hid hrg
  clear hrg
  have HR := Lib.hid hr
  have HBL := Lib.hid hbl
  obtain ⟨cs, hcs⟩ : ∃ cs, cs = b.map cellOf := ⟨_, rfl⟩
  simp only [← hcs] at hh heq
  have HEQ := Lib.hid heq
  clear heq
  have HHD := Lib.hid hh
  have HCS := Lib.hid hcs
  have hcl : cs.length = 16 := by rw [hcs]; simpa using hbl
  have HCL := Lib.hid (show (b.map cellOf).length = Nat.min 16 16 by rw [← hcs, hcl]; rfl)
  have HB1 := Lib.hid (show Below w.heap.size w ((w.alloc (.cells #[.int .i64 0, .int .i64 0, .int .i64 0] 23)).alloc (.cells ((List.replicate 16 (0 : UInt8)).map cellOf).toArray 42)) from ((Below.refl w.heap.size w).alloc (Nat.le_refl _) _).alloc (by simp) _)
  have HT1 := Lib.hid (show Three 23 ((w.alloc (.cells #[.int .i64 0, .int .i64 0, .int .i64 0] 23)).alloc (.cells ((List.replicate 16 (0 : UInt8)).map cellOf).toArray 42)) w.heap.size 0 0 0 from (Three.new 23 w 0 0 0).old _)
  obtain ⟨zs, hzs⟩ : ∃ zs, zs = List.replicate 16 (0 : UInt8) := ⟨_, rfl⟩
  have HZS := Lib.hid hzs
  have HA1 := Lib.hid (show Arr ((w.alloc (.cells #[.int .i64 0, .int .i64 0, .int .i64 0] 23)).alloc (.cells ((List.replicate 16 (0 : UInt8)).map cellOf).toArray 42)) (w.heap.size + 1) 42 zs from by
    rw [hzs]
    have h := Arr.new (w.alloc (.cells #[.int .i64 0, .int .i64 0, .int .i64 0] 23)) 42 (List.replicate 16 0)
    rw [World.size_alloc] at h
    exact h)
  have HCF := Lib.hid (show 0 + (b.map cellOf).length ≤ (zs.map cellOf).length by rw [← hcs, hcl, hzs]; simp)
  have HRb := Lib.hid (bytes_more (bytes_keep HR.out HB1.out) HB1.out.size)
  have hwe : w.heap.size < w.heap.size + 1 := by omega
  clear hr hbl hh hcs hzs
  go_enter Try.func15, Try.ntmps15
  go_wp2_with (refine wpList_copy_splice rfl _ _ _ _ rfl 5 Try.underlying25 size8 _ _ _ _ _ _ rfl rfl (w.heap.size + 1) 0 (zs.map cellOf) 42 HA1.out (b.map cellOf) HCL.out (src_ok (by omega) HRb.out) HCF.out (cells_one _) (w.heap.size + 1) _ (Below.refl _ _) (Nat.le_refl _) ?_)
  intro w2 hg2 hb2
  have HA2 := Lib.hid (show Arr w2 (w.heap.size + 1) 42 b by
    have h := Arr.of_copy hg2
    rw [HZS.out, over_all HBL.out] at h
    exact h)
  have HT2 := Lib.hid (show Three 23 w2 w.heap.size 0 0 0 from (hb2.block w.heap.size hwe).trans HT1.out)
  have HB2 := Lib.hid (show Below w.heap.size w w2 from HB1.out.trans (hb2.mono (Nat.le_of_lt hwe)))
  clear hg2 hb2 HA1 HT1 HB1 HRb HCL HCF
  obtain ⟨C, hC⟩ : ∃ C, C = w.heap.size + 1 := ⟨_, rfl⟩
  rw [← hC] at HA2 hwe ⊢
  clear hC
  have hld : (loadCellsFrom ⟨C, 0, none⟩ 0 16 #[]).run Try.prog w2 = .ok cs.toArray w2 := by rw [HCS.out]; exact run_load_arr HA2.out HBL.out
  go_wp2_with fail
  refine (HHD.out _).mono ?_
  rintro e w3 ⟨rfl, hb3⟩
  obtain ⟨w4, hst, ht4, hb4⟩ := (Three.new 23 w3 0 0 0).store Try.prog k l s
  have hb34 := ((Below.refl w3.heap.size w3).alloc (Nat.le_refl _) (.cells #[.int .i64 0, .int .i64 0, .int .i64 0] 23)).trans hb4
  have HT4 := Lib.hid ht4
  have HB4 := Lib.hid (below_on (below_on HB2.out hb3) hb34)
  have HZ4 := Lib.hid ((HT2.out.keep hb3).keep hb34)
  have HA4 := Lib.hid ((HA2.out.keep hb3).keep hb34)
  clear hb3 hb4 hb34 ht4 hld
  go_wp2
  clear hst
  generalize w3.heap.size = D at HT4 ⊢
  refine wp_region_held_drew (S := (fun w' => (loadCellsFrom ⟨D, 0, none⟩ 0 3 #[]).run Try.prog w' = .ok #[.int .i64 k, .int .i64 l, .int .i64 s] w' ∧ (loadCellsFrom ⟨C, 0, none⟩ 0 16 #[]).run Try.prog w' = .ok cs.toArray w')) (by kernel_rfl) ?_ (fun hHeld => ?_)
  · exact ⟨Three.load (w := w4.drew) HT4.out, by rw [HCS.out]; exact run_load_arr (w := w4.drew) HA4.out HBL.out⟩
  refine Hand.held_take (i := 0) (d := 15) (v := ?_) rfl rfl (by kernel_rfl) (by kernel_rfl) (by kernel_rfl) (by rfl) ?_ (by assumption) (fun _ _ _ h => h) ?_
  rotate_left
  · intro w hSw
    go_simp
    with_reducible rfl
  try simp only [Act.put, List.setIfInBounds_toArray, List.set_cons_zero, List.set_cons_succ]
  refine wpAnyH_ready (rs := [1]) (by kernel_rfl) (by simp) ?_
  refine AllReadyH.cons rfl (fun K hK => ?_) AllReadyH.nil
  go_simp
  go_wp2_with (go_at_call 13; refine (HRG.out _).mono ?_; rintro e w5 ⟨rfl, hb⟩; have HT5 := Lib.hid (HT4.out.keepd hb); have HA5 := Lib.hid (HA4.out.keepd hb); have HZ5 := Lib.hid (HZ4.out.keepd hb); have HB5 := Lib.hid (below_on HB4.out.drew hb); clear hb)
  refine hK.out _ _ ?_ (fun hHeld => ?_)
  · exact ⟨Three.load HT5.out, by rw [HCS.out]; exact run_load_arr HA5.out HBL.out⟩
  clear hK K
  refine Hand.held_take (i := 2) (d := 17) (v := ?_) rfl rfl (by kernel_rfl) (by kernel_rfl) (by kernel_rfl) (by rfl) ?_ (by assumption) (fun _ _ _ h => h) ?_
  rotate_left
  · intro w hSw
    go_simp
    with_reducible rfl
  try simp only [Act.put, List.setIfInBounds_toArray, List.set_cons_zero, List.set_cons_succ]
  refine Hand.held_take (i := 3) (d := 18) (v := ?_) rfl rfl (by kernel_rfl) (by kernel_rfl) (by kernel_rfl) (by rfl) ?_ (by assumption) (fun _ _ _ h => h) ?_
  rotate_left
  · intro w hSw
    go_simp
    with_reducible rfl
  try simp only [Act.put, List.setIfInBounds_toArray, List.set_cons_zero, List.set_cons_succ]
  refine Hand.held_take (i := 4) (d := 19) (v := ?_) rfl rfl (by kernel_rfl) (by kernel_rfl) (by kernel_rfl) (by rfl) ?_ (by assumption) (fun _ _ _ h => h) ?_
  rotate_left
  · intro w hSw
    go_simp
    with_reducible rfl
  try simp only [Act.put, List.setIfInBounds_toArray, List.set_cons_zero, List.set_cons_succ]
  refine Hand.held_take (i := 6) (d := 21) (v := ?_) rfl rfl (by kernel_rfl) (by kernel_rfl) (by kernel_rfl) (by rfl) ?_ (by assumption) (fun _ _ _ h => h) ?_
  rotate_left
  · intro w hSw
    go_simp
    with_reducible rfl
  try simp only [Act.put, List.setIfInBounds_toArray, List.set_cons_zero, List.set_cons_succ]
  refine wpAnyH_ready (rs := [5]) (by kernel_rfl) (by simp) ?_
  refine AllReadyH.cons rfl (fun K hK => ?_) AllReadyH.nil
  go_simp
  go_wp2_with (go_at_call 17; refine (HPK.out _).mono ?_; rintro e w6 ⟨rfl, hb⟩; have HT6 := Lib.hid (HT5.out.keep hb); have HA6 := Lib.hid (HA5.out.keep hb); have HZ6 := Lib.hid (HZ5.out.keep hb); have HB6 := Lib.hid (below_on HB5.out hb); clear hb)
  refine hK.out _ _ ?_ (fun hHeld => ?_)
  · exact ⟨Three.load HT6.out, by rw [HCS.out]; exact run_load_arr HA6.out HBL.out⟩
  clear hK K
  have heq := HEQ.out
  refine Hand.held_take (i := 7) (d := 22) (v := ?_) rfl rfl (by kernel_rfl) (by kernel_rfl) (by kernel_rfl) (by rfl) ?_ (by assumption) (fun _ _ _ h => h) ?_
  rotate_left
  · intro w hSw
    go_simp
    with_reducible rfl
  try simp only [Act.put, List.setIfInBounds_toArray, List.set_cons_zero, List.set_cons_succ]
  refine Hand.held_take (i := 8) (d := 23) (v := ?_) rfl rfl (by kernel_rfl) (by kernel_rfl) (by kernel_rfl) (by rfl) ?_ (by assumption) (fun _ _ _ h => h) ?_
  rotate_left
  · intro w hSw
    go_simp
    with_reducible rfl
  try simp only [Act.put, List.setIfInBounds_toArray, List.set_cons_zero, List.set_cons_succ]
  refine wpAnyH_done (by kernel_rfl) ?_ _
  have hldn := HT6.out.load (P := Try.prog)
  obtain ⟨w7, hst, ht7, hb7⟩ := HZ6.out.store Try.prog k l s
  have hld7 := ht7.load (P := Try.prog)
  have HB7 := Lib.hid (HB6.out.trans hb7)
  clear ht7 hb7 hHeld heq
  go_wp2
  refine bodyPost_ret (v := .tuple #[tri k l s, .int .i64 0]) ?_ rfl ⟨rfl, HB7.out⟩
  simp [results, Try.results15, go_sem, hld7]

/-- Read, whatever it is given. -/
theorem Read_any (A : Option Addr) (n c : Nat) (b : List UInt8) (w : World) (hr : Bytes w w.heap.size A n b) :
    Calls Try.prog 15 #[.slice A n c] w fun e w' => e = .returned (.tuple #[tri (Mark.rd b).1 (Mark.rd b).2.1 (Mark.rd b).2.2.1, .int .i64 (Mark.rd b).2.2.2]) ∧ Below w.heap.size w w' := by
  have hn := hr.1
  by_cases h : n = 16
  · subst h
    by_cases hok : Mark.Ok (Mark.lineOf b) (Mark.wearOf b) (Mark.stampOf b)
    · by_cases hf : Mark.code (Mark.lineOf b) (Mark.wearOf b) (Mark.stampOf b) = b
      · rw [Mark.rd_ok ⟨hn, hok, hf⟩]
        exact Read_yes A c b w hr hok hf
      · rw [Mark.rd_form (fun h => hf h.2.2)]
        exact Read_other A c b w hr hok hf
    · rw [Mark.rd_form (fun h => hok h.2.1)]
      exact Read_bad A c b w hr hok
  · rw [Mark.rd_form (fun h2 => h (by omega))]
    exact Read_len A n c w h

theorem Read_is {A : Option Addr} {n c : Nat} {b : List UInt8} {w : World} (hr : Bytes w w.heap.size A n b) {l r s z : Int} (h : Mark.rd b = (l, r, s, z)) :
    Calls Try.prog 15 #[.slice A n c] w fun e w' => e = .returned (.tuple #[tri l r s, .int .i64 z]) ∧ Below w.heap.size w w' := by
  have h2 := Read_any A n c b w hr
  rw [h] at h2
  exact h2

end Go.Proofs.Ytbdompmhgjkgbaa.MarkPkg
