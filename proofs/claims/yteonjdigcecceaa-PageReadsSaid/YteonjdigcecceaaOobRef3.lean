/-
  The document's own answer for layer 5, the last part: Unpack.
-/
import Derived.Test.YteonjdigcecceaaOobRef2
namespace Go.Proofs.Yteonjdigcecceaa.OobPkg
open Go.RowKit Go.ChangeShapes Go.WideShapes
set_option maxRecDepth 4000

theorem bytes_behind {w : World} {B b off n : Nat} {xs : List UInt8} (h : Bytes w B (some ⟨b, off, none⟩) n xs) (m : Nat) : Bytes w B (some ⟨b, off + m, none⟩) (n - m) (xs.drop m) := by
  have hl := h.1
  refine ⟨by simp; omega, fun i hi => ?_⟩
  simp at hi
  obtain ⟨b2, off2, e, hb, hc⟩ := h.2 (m + i) (by omega)
  injection e with e
  injection e with e1 e2
  subst e1 e2
  refine ⟨b, off + m, rfl, hb, ?_⟩
  rw [Nat.add_assoc, hc]
  simp

/-- The document's TakeFixed of the bytes from place p on. -/
theorem rtake_at (p : Nat) (hp : p + 4 ≤ 17) (bb off c : Nat) (b : List UInt8) (w : World) (hr : Bytes w w.heap.size (some ⟨bb, off, none⟩) 17 b) :
    Calls Try.prog 49 #[.slice (some ⟨bb, off + p, none⟩) (17 - p) (c - p)] w fun e w' => e = .returned (.tuple #[.int .u32 (Wire.fk (b.drop p) 4 : Int), .int .i64 0]) ∧ Below w.heap.size w w' := by
  have h := rtakeFixed_any (some ⟨bb, off + p, none⟩) (17 - p) (c - p) w.heap.size (b.drop p) w (by show 17 - p ≤ 9223372036854775807; omega) (bytes_behind hr p)
  rw [tf_is (show 4 ≤ (b.drop p).length by rw [List.length_drop, hr.1]; omega)] at h
  exact h

theorem rUnpack_len (A A2 : Option Addr) (n c m c2 : Nat) (w : World) (h : ¬ (n = 17 ∧ m = 16)) :
    Calls Try.prog 33 #[.slice A n c, .slice A2 m c2] w fun e w' => e = .returned (.tuple #[oob 0 0 0, .int .i64 3]) ∧ Below w.heap.size w w' := by
  have HB := Lib.hid ((Below.refl w.heap.size w).alloc (Nat.le_refl _) (.cells #[.int .i64 0, .int .i64 0, .int .i64 0] 44))
  by_cases hn : n = 17
  · have hm : ¬ (m : Int) = 16 := fun e => h ⟨hn, by omega⟩
    subst hn
    clear h
    go_enter Try.func33, Try.ntmps33
    go_wp2
    refine bodyPost_ret (v := .tuple #[oob 0 0 0, .int .i64 3]) ?_ rfl ⟨rfl, HB.out⟩
    simp [results, Try.results33, go_sem]
  · have hn2 : ¬ (n : Int) = 17 := by omega
    clear h
    go_enter Try.func33, Try.ntmps33
    go_wp2
    refine bodyPost_ret (v := .tuple #[oob 0 0 0, .int .i64 3]) ?_ rfl ⟨rfl, HB.out⟩
    simp [results, Try.results33, go_sem]

attribute [-go_sem] loadCellsFrom storeCells

set_option maxHeartbeats 1000000 in
theorem rUnpack_high (bb off : Nat) (A2 : Option Addr) (c c2 : Nat) (b d : List UInt8) (w : World) (hnc : 17 ≤ c) (hr : Bytes w w.heap.size (some ⟨bb, off, none⟩) 17 b) (hr2 : Bytes w w.heap.size A2 16 d) (hhi : 262144 < Oob.highOf b) :
    Calls Try.prog 33 #[.slice (some ⟨bb, off, none⟩) 17 c, .slice A2 16 c2] w fun e w' => e = .returned (.tuple #[oob 0 0 0, .int .i64 3]) ∧ Below w.heap.size w w' := by
  have t1 : ∀ w', Bytes w' w'.heap.size (some ⟨bb, off, none⟩) 17 b → Calls Try.prog 49 #[.slice (some ⟨bb, off + 1, none⟩) 16 (c - 1)] w' fun e w'' => e = .returned (.tuple #[.int .u32 (Oob.lbaOf b), .int .i64 0]) ∧ Below w'.heap.size w' w'' := fun w' h => rtake_at 1 (by omega) bb off c b w' h
  have t5 : ∀ w', Bytes w' w'.heap.size (some ⟨bb, off, none⟩) 17 b → Calls Try.prog 49 #[.slice (some ⟨bb, off + 5, none⟩) 12 (c - 5)] w' fun e w'' => e = .returned (.tuple #[.int .u32 (Oob.lowOf b), .int .i64 0]) ∧ Below w'.heap.size w' w'' := fun w' h => rtake_at 5 (by omega) bb off c b w' h
  have t9 : ∀ w', Bytes w' w'.heap.size (some ⟨bb, off, none⟩) 17 b → Calls Try.prog 49 #[.slice (some ⟨bb, off + 9, none⟩) 8 (c - 9)] w' fun e w'' => e = .returned (.tuple #[.int .u32 (Oob.highOf b), .int .i64 0]) ∧ Below w'.heap.size w' w'' := fun w' h => rtake_at 9 (by omega) bb off c b w' h
  have hlb := Oob.lba_bd b
  have hlw := Oob.low_bd b
  have hhg := Oob.high_bd b
  have hst : Oob.stampOf b = Oob.highOf b * 4294967296 + Oob.lowOf b := rfl
  have hcc : w.cell? ⟨bb, off, none⟩ = some (.int .u8 (Oob.kindOf b)) := by
    have h := Bytes.cellAt hr rfl (k := 0) (x := b.getD 0 0) (by rw [List.getD, List.getElem?_eq_getElem (by rw [hr.1]; omega)]; rfl)
    rw [Nat.add_zero] at h
    exact h
  have hkd := Oob.kind_bd b
  generalize Oob.highOf b = hi at t9 hhg hst hhi
  generalize Oob.lowOf b = lo at t5 hlw hst hhi
  generalize Oob.lbaOf b = l at t1 hlb
  generalize Oob.kindOf b = k at hkd hcc
  clear hst
  have T1 := Lib.hid t1
  have T5 := Lib.hid t5
  have T9 := Lib.hid t9
  have HR := Lib.hid hr
  have HR2 := Lib.hid hr2
  have HCC := Lib.hid hcc
  clear t1 t5 t9 hr hr2 hcc
  have hc1 : ¬ c = 1 := by omega
  have hc5 : ¬ c = 5 := by omega
  have hc9 : ¬ c = 9 := by omega
  have HB := Lib.hid ((Below.refl w.heap.size w).alloc (Nat.le_refl _) (.cells #[.int .i64 0, .int .i64 0, .int .i64 0] 44))
  have HZ := Lib.hid (Tri.new w 0 0 0)
  have HbbG := Lib.hid (show bb < w.heap.size from cell_lt HCC.out)
  obtain ⟨hlb0, hlb1⟩ := hlb
  obtain ⟨hlw0, hlw1⟩ := hlw
  obtain ⟨hhg0, hhg1⟩ := hhg
  obtain ⟨hkd0, hkd1⟩ := hkd
  go_enter Try.func33, Try.ntmps33
  go_wp2_with fail
  refine (T1.out _ (bytes_more (bytes_keep HR.out HB.out) HB.out.size)).mono ?_
  rintro e w1 ⟨rfl, hb⟩
  replace HB := Lib.hid (below_on HB.out hb)
  replace HZ := Lib.hid (HZ.out.keep hb)
  clear hb
  go_wp2_with fail
  refine (T5.out _ (bytes_more (bytes_keep HR.out HB.out) HB.out.size)).mono ?_
  rintro e w2 ⟨rfl, hb⟩
  replace HB := Lib.hid (below_on HB.out hb)
  replace HZ := Lib.hid (HZ.out.keep hb)
  clear hb
  go_wp2_with fail
  refine (T9.out _ (bytes_more (bytes_keep HR.out HB.out) HB.out.size)).mono ?_
  rintro e w3 ⟨rfl, hb⟩
  replace HB := Lib.hid (below_on HB.out hb)
  replace HZ := Lib.hid (HZ.out.keep hb)
  clear hb
  obtain ⟨w6, hstt, ht6, hb6⟩ := HZ.out.store 0 0 0
  have hld6 := ht6.load
  have HB6 := Lib.hid (HB.out.trans hb6)
  clear ht6 hb6
  go_wp2
  refine bodyPost_ret (v := .tuple #[oob 0 0 0, .int .i64 3]) ?_ rfl ⟨rfl, HB6.out⟩
  simp [results, Try.results33, go_sem, hld6]

set_option maxHeartbeats 1000000 in
theorem rUnpack_bad (bb off : Nat) (A2 : Option Addr) (c c2 : Nat) (b d : List UInt8) (w : World) (hnc : 17 ≤ c) (hr : Bytes w w.heap.size (some ⟨bb, off, none⟩) 17 b) (hr2 : Bytes w w.heap.size A2 16 d) (hhi : ¬ 262144 < Oob.highOf b) (hok : ¬ Oob.Ok (Oob.kindOf b) (Oob.lbaOf b) (Oob.stampOf b)) :
    Calls Try.prog 33 #[.slice (some ⟨bb, off, none⟩) 17 c, .slice A2 16 c2] w fun e w' => e = .returned (.tuple #[oob 0 0 0, .int .i64 3]) ∧ Below w.heap.size w w' := by
  have t1 : ∀ w', Bytes w' w'.heap.size (some ⟨bb, off, none⟩) 17 b → Calls Try.prog 49 #[.slice (some ⟨bb, off + 1, none⟩) 16 (c - 1)] w' fun e w'' => e = .returned (.tuple #[.int .u32 (Oob.lbaOf b), .int .i64 0]) ∧ Below w'.heap.size w' w'' := fun w' h => rtake_at 1 (by omega) bb off c b w' h
  have t5 : ∀ w', Bytes w' w'.heap.size (some ⟨bb, off, none⟩) 17 b → Calls Try.prog 49 #[.slice (some ⟨bb, off + 5, none⟩) 12 (c - 5)] w' fun e w'' => e = .returned (.tuple #[.int .u32 (Oob.lowOf b), .int .i64 0]) ∧ Below w'.heap.size w' w'' := fun w' h => rtake_at 5 (by omega) bb off c b w' h
  have t9 : ∀ w', Bytes w' w'.heap.size (some ⟨bb, off, none⟩) 17 b → Calls Try.prog 49 #[.slice (some ⟨bb, off + 9, none⟩) 8 (c - 9)] w' fun e w'' => e = .returned (.tuple #[.int .u32 (Oob.highOf b), .int .i64 0]) ∧ Below w'.heap.size w' w'' := fun w' h => rtake_at 9 (by omega) bb off c b w' h
  have hlb := Oob.lba_bd b
  have hlw := Oob.low_bd b
  have hhg := Oob.high_bd b
  have hst : Oob.stampOf b = Oob.highOf b * 4294967296 + Oob.lowOf b := rfl
  have hcc : w.cell? ⟨bb, off, none⟩ = some (.int .u8 (Oob.kindOf b)) := by
    have h := Bytes.cellAt hr rfl (k := 0) (x := b.getD 0 0) (by rw [List.getD, List.getElem?_eq_getElem (by rw [hr.1]; omega)]; rfl)
    rw [Nat.add_zero] at h
    exact h
  have hkd := Oob.kind_bd b
  generalize Oob.stampOf b = s at hst hok
  generalize Oob.highOf b = hi at t9 hhg hst hhi
  generalize Oob.lowOf b = lo at t5 hlw hst hhi
  generalize Oob.lbaOf b = l at t1 hlb hok
  generalize Oob.kindOf b = k at hkd hcc hok
  have HOK := Lib.hid hok
  have HST := Lib.hid hst
  clear hok hst
  have T1 := Lib.hid t1
  have T5 := Lib.hid t5
  have T9 := Lib.hid t9
  have HR := Lib.hid hr
  have HR2 := Lib.hid hr2
  have HCC := Lib.hid hcc
  clear t1 t5 t9 hr hr2 hcc
  have hc1 : ¬ c = 1 := by omega
  have hc5 : ¬ c = 5 := by omega
  have hc9 : ¬ c = 9 := by omega
  have HB := Lib.hid ((Below.refl w.heap.size w).alloc (Nat.le_refl _) (.cells #[.int .i64 0, .int .i64 0, .int .i64 0] 44))
  have HZ := Lib.hid (Tri.new w 0 0 0)
  have HbbG := Lib.hid (show bb < w.heap.size from cell_lt HCC.out)
  obtain ⟨hlb0, hlb1⟩ := hlb
  obtain ⟨hlw0, hlw1⟩ := hlw
  obtain ⟨hhg0, hhg1⟩ := hhg
  obtain ⟨hkd0, hkd1⟩ := hkd
  go_enter Try.func33, Try.ntmps33
  go_wp2_with fail
  refine (T1.out _ (bytes_more (bytes_keep HR.out HB.out) HB.out.size)).mono ?_
  rintro e w1 ⟨rfl, hb⟩
  replace HB := Lib.hid (below_on HB.out hb)
  replace HZ := Lib.hid (HZ.out.keep hb)
  clear hb
  go_wp2_with fail
  refine (T5.out _ (bytes_more (bytes_keep HR.out HB.out) HB.out.size)).mono ?_
  rintro e w2 ⟨rfl, hb⟩
  replace HB := Lib.hid (below_on HB.out hb)
  replace HZ := Lib.hid (HZ.out.keep hb)
  clear hb
  go_wp2_with fail
  refine (T9.out _ (bytes_more (bytes_keep HR.out HB.out) HB.out.size)).mono ?_
  rintro e w3 ⟨rfl, hb⟩
  replace HB := Lib.hid (below_on HB.out hb)
  replace HZ := Lib.hid (HZ.out.keep hb)
  clear hb
  have hck : w3.cell? ⟨bb, off, none⟩ = some (.int .u8 k) := (HB.out.cell (p := ⟨bb, off, none⟩) HbbG.out).trans HCC.out
  obtain ⟨w4, hstt, ht4, hb4⟩ := (Tri.new w3 0 0 0).store k l s
  have hb34 := ((Below.refl w3.heap.size w3).alloc (Nat.le_refl _) (.cells #[.int .i64 0, .int .i64 0, .int .i64 0] 44)).trans hb4
  have hld4 := ht4.load
  have HT4 := Lib.hid ht4
  replace HB := Lib.hid (below_on HB.out hb34)
  replace HZ := Lib.hid (HZ.out.keep hb34)
  clear hb4 hb34 ht4
  have hse : hi * 4294967296 + lo = s := HST.out.symm
  go_wp2_with fail
  refine (rPack_bad k l s A2 16 c2 w4 (fun h => HOK.out h.1)).mono ?_
  rintro e w5 ⟨rfl, hb⟩
  replace HB := Lib.hid (below_on HB.out hb)
  replace HZ := Lib.hid (HZ.out.keep hb)
  obtain ⟨w6, hstu, ht6, hb6⟩ := HZ.out.store 0 0 0
  have hld6 := ht6.load
  have HB6 := Lib.hid (HB.out.trans hb6)
  clear ht6 hb6 hb hstt hld4 hse
  go_wp2
  refine bodyPost_ret (v := .tuple #[oob 0 0 0, .int .i64 3]) ?_ rfl ⟨rfl, HB6.out⟩
  simp [results, Try.results33, go_sem, hld6]

set_option maxHeartbeats 1000000 in
theorem rUnpack_sum (bb off : Nat) (A2 : Option Addr) (c c2 : Nat) (b d : List UInt8) (w : World) (hnc : 17 ≤ c) (hr : Bytes w w.heap.size (some ⟨bb, off, none⟩) 17 b) (hr2 : Bytes w w.heap.size A2 16 d) (hhi : ¬ 262144 < Oob.highOf b) (hok : Oob.Ok (Oob.kindOf b) (Oob.lbaOf b) (Oob.stampOf b)) (hf : Oob.full (Oob.kindOf b) (Oob.lbaOf b) (Oob.stampOf b) d ≠ b) :
    Calls Try.prog 33 #[.slice (some ⟨bb, off, none⟩) 17 c, .slice A2 16 c2] w fun e w' => e = .returned (.tuple #[oob 0 0 0, .int .i64 4]) ∧ Below w.heap.size w w' := by
  have t1 : ∀ w', Bytes w' w'.heap.size (some ⟨bb, off, none⟩) 17 b → Calls Try.prog 49 #[.slice (some ⟨bb, off + 1, none⟩) 16 (c - 1)] w' fun e w'' => e = .returned (.tuple #[.int .u32 (Oob.lbaOf b), .int .i64 0]) ∧ Below w'.heap.size w' w'' := fun w' h => rtake_at 1 (by omega) bb off c b w' h
  have t5 : ∀ w', Bytes w' w'.heap.size (some ⟨bb, off, none⟩) 17 b → Calls Try.prog 49 #[.slice (some ⟨bb, off + 5, none⟩) 12 (c - 5)] w' fun e w'' => e = .returned (.tuple #[.int .u32 (Oob.lowOf b), .int .i64 0]) ∧ Below w'.heap.size w' w'' := fun w' h => rtake_at 5 (by omega) bb off c b w' h
  have t9 : ∀ w', Bytes w' w'.heap.size (some ⟨bb, off, none⟩) 17 b → Calls Try.prog 49 #[.slice (some ⟨bb, off + 9, none⟩) 8 (c - 9)] w' fun e w'' => e = .returned (.tuple #[.int .u32 (Oob.highOf b), .int .i64 0]) ∧ Below w'.heap.size w' w'' := fun w' h => rtake_at 9 (by omega) bb off c b w' h
  have hlb := Oob.lba_bd b
  have hlw := Oob.low_bd b
  have hhg := Oob.high_bd b
  have hst : Oob.stampOf b = Oob.highOf b * 4294967296 + Oob.lowOf b := rfl
  have hcc : w.cell? ⟨bb, off, none⟩ = some (.int .u8 (Oob.kindOf b)) := by
    have h := Bytes.cellAt hr rfl (k := 0) (x := b.getD 0 0) (by rw [List.getD, List.getElem?_eq_getElem (by rw [hr.1]; omega)]; rfl)
    rw [Nat.add_zero] at h
    exact h
  have hkd := Oob.kind_bd b
  obtain ⟨u, hu⟩ : ∃ u, u = Oob.full (Oob.kindOf b) (Oob.lbaOf b) (Oob.stampOf b) d := ⟨_, rfl⟩
  rw [← hu] at hf
  generalize Oob.stampOf b = s at hst hok hu
  generalize Oob.highOf b = hi at t9 hhg hst hhi
  generalize Oob.lowOf b = lo at t5 hlw hst hhi
  generalize Oob.lbaOf b = l at t1 hlb hok hu
  generalize Oob.kindOf b = k at hkd hcc hok hu
  have HOK := Lib.hid hok
  have HST := Lib.hid hst
  have HU := Lib.hid hu
  have HF := Lib.hid hf
  clear hok hst hu hf
  have T1 := Lib.hid t1
  have T5 := Lib.hid t5
  have T9 := Lib.hid t9
  have HR := Lib.hid hr
  have HR2 := Lib.hid hr2
  have HCC := Lib.hid hcc
  clear t1 t5 t9 hr hr2 hcc
  have hc1 : ¬ c = 1 := by omega
  have hc5 : ¬ c = 5 := by omega
  have hc9 : ¬ c = 9 := by omega
  have HB := Lib.hid ((Below.refl w.heap.size w).alloc (Nat.le_refl _) (.cells #[.int .i64 0, .int .i64 0, .int .i64 0] 44))
  have HZ := Lib.hid (Tri.new w 0 0 0)
  have HbbG := Lib.hid (show bb < w.heap.size from cell_lt HCC.out)
  obtain ⟨hlb0, hlb1⟩ := hlb
  obtain ⟨hlw0, hlw1⟩ := hlw
  obtain ⟨hhg0, hhg1⟩ := hhg
  obtain ⟨hkd0, hkd1⟩ := hkd
  go_enter Try.func33, Try.ntmps33
  go_wp2_with fail
  refine (T1.out _ (bytes_more (bytes_keep HR.out HB.out) HB.out.size)).mono ?_
  rintro e w1 ⟨rfl, hb⟩
  replace HB := Lib.hid (below_on HB.out hb)
  replace HZ := Lib.hid (HZ.out.keep hb)
  clear hb
  go_wp2_with fail
  refine (T5.out _ (bytes_more (bytes_keep HR.out HB.out) HB.out.size)).mono ?_
  rintro e w2 ⟨rfl, hb⟩
  replace HB := Lib.hid (below_on HB.out hb)
  replace HZ := Lib.hid (HZ.out.keep hb)
  clear hb
  go_wp2_with fail
  refine (T9.out _ (bytes_more (bytes_keep HR.out HB.out) HB.out.size)).mono ?_
  rintro e w3 ⟨rfl, hb⟩
  replace HB := Lib.hid (below_on HB.out hb)
  replace HZ := Lib.hid (HZ.out.keep hb)
  clear hb
  have hck : w3.cell? ⟨bb, off, none⟩ = some (.int .u8 k) := (HB.out.cell (p := ⟨bb, off, none⟩) HbbG.out).trans HCC.out
  obtain ⟨w4, hstt, ht4, hb4⟩ := (Tri.new w3 0 0 0).store k l s
  have hb34 := ((Below.refl w3.heap.size w3).alloc (Nat.le_refl _) (.cells #[.int .i64 0, .int .i64 0, .int .i64 0] 44)).trans hb4
  have hld4 := ht4.load
  have HT4 := Lib.hid ht4
  replace HB := Lib.hid (below_on HB.out hb34)
  replace HZ := Lib.hid (HZ.out.keep hb34)
  clear hb4 hb34 ht4
  have hse : hi * 4294967296 + lo = s := HST.out.symm
  go_wp2_with fail
  refine (rPack_ok k l s A2 c2 d w4 HOK.out (bytes_more (bytes_keep HR2.out HB.out) HB.out.size)).mono ?_
  rintro e w5 ⟨v5, rfl, ho5, hb⟩
  rw [← HU.out] at ho5
  obtain ⟨A5, c5, rfl, hr5⟩ := ho5.reads
  replace HB := Lib.hid (below_on HB.out hb)
  replace HZ := Lib.hid (HZ.out.keep hb)
  replace HT4 := Lib.hid (HT4.out.keep hb)
  have hs1 := run_str (P := Try.prog) w5 40 9 5 Try.underlying40 Try.underlying5 Try.underlying9 (c := c5) hr5
  have hs2 := run_str (P := Try.prog) w5 40 9 5 Try.underlying40 Try.underlying5 Try.underlying9 (c := c) (bytes_keep HR.out HB.out)
  generalize u.length = N5 at hs1 ⊢
  have hq : ((str u).toList == (str b).toList) = false := by
    exact str_ne HF.out
  obtain ⟨w6, hstu, ht6, hb6⟩ := HZ.out.store 0 0 0
  have hld5 := HT4.out.load
  have hld6 := ht6.load
  have HB6 := Lib.hid (HB.out.trans hb6)
  clear ht6 hb6 hb hstt hld4 hse ho5 hr5
  go_wp2
  refine bodyPost_ret (v := .tuple #[oob 0 0 0, .int .i64 4]) ?_ rfl ⟨rfl, HB6.out⟩
  simp [results, Try.results33, go_sem, hld6]

set_option maxHeartbeats 1000000 in
theorem rUnpack_yes (bb off : Nat) (A2 : Option Addr) (c c2 : Nat) (b d : List UInt8) (w : World) (hnc : 17 ≤ c) (hr : Bytes w w.heap.size (some ⟨bb, off, none⟩) 17 b) (hr2 : Bytes w w.heap.size A2 16 d) (hhi : ¬ 262144 < Oob.highOf b) (hok : Oob.Ok (Oob.kindOf b) (Oob.lbaOf b) (Oob.stampOf b)) (hf : Oob.full (Oob.kindOf b) (Oob.lbaOf b) (Oob.stampOf b) d = b) :
    Calls Try.prog 33 #[.slice (some ⟨bb, off, none⟩) 17 c, .slice A2 16 c2] w fun e w' => e = .returned (.tuple #[oob (Oob.kindOf b) (Oob.lbaOf b) (Oob.stampOf b), .int .i64 0]) ∧ Below w.heap.size w w' := by
  have t1 : ∀ w', Bytes w' w'.heap.size (some ⟨bb, off, none⟩) 17 b → Calls Try.prog 49 #[.slice (some ⟨bb, off + 1, none⟩) 16 (c - 1)] w' fun e w'' => e = .returned (.tuple #[.int .u32 (Oob.lbaOf b), .int .i64 0]) ∧ Below w'.heap.size w' w'' := fun w' h => rtake_at 1 (by omega) bb off c b w' h
  have t5 : ∀ w', Bytes w' w'.heap.size (some ⟨bb, off, none⟩) 17 b → Calls Try.prog 49 #[.slice (some ⟨bb, off + 5, none⟩) 12 (c - 5)] w' fun e w'' => e = .returned (.tuple #[.int .u32 (Oob.lowOf b), .int .i64 0]) ∧ Below w'.heap.size w' w'' := fun w' h => rtake_at 5 (by omega) bb off c b w' h
  have t9 : ∀ w', Bytes w' w'.heap.size (some ⟨bb, off, none⟩) 17 b → Calls Try.prog 49 #[.slice (some ⟨bb, off + 9, none⟩) 8 (c - 9)] w' fun e w'' => e = .returned (.tuple #[.int .u32 (Oob.highOf b), .int .i64 0]) ∧ Below w'.heap.size w' w'' := fun w' h => rtake_at 9 (by omega) bb off c b w' h
  have hlb := Oob.lba_bd b
  have hlw := Oob.low_bd b
  have hhg := Oob.high_bd b
  have hst : Oob.stampOf b = Oob.highOf b * 4294967296 + Oob.lowOf b := rfl
  have hcc : w.cell? ⟨bb, off, none⟩ = some (.int .u8 (Oob.kindOf b)) := by
    have h := Bytes.cellAt hr rfl (k := 0) (x := b.getD 0 0) (by rw [List.getD, List.getElem?_eq_getElem (by rw [hr.1]; omega)]; rfl)
    rw [Nat.add_zero] at h
    exact h
  have hkd := Oob.kind_bd b
  obtain ⟨u, hu⟩ : ∃ u, u = Oob.full (Oob.kindOf b) (Oob.lbaOf b) (Oob.stampOf b) d := ⟨_, rfl⟩
  rw [← hu] at hf
  generalize Oob.stampOf b = s at hst hok hu ⊢
  generalize Oob.highOf b = hi at t9 hhg hst hhi
  generalize Oob.lowOf b = lo at t5 hlw hst hhi
  generalize Oob.lbaOf b = l at t1 hlb hok hu ⊢
  generalize Oob.kindOf b = k at hkd hcc hok hu ⊢
  have HOK := Lib.hid hok
  have HST := Lib.hid hst
  have HU := Lib.hid hu
  have HF := Lib.hid hf
  clear hok hst hu hf
  have T1 := Lib.hid t1
  have T5 := Lib.hid t5
  have T9 := Lib.hid t9
  have HR := Lib.hid hr
  have HR2 := Lib.hid hr2
  have HCC := Lib.hid hcc
  clear t1 t5 t9 hr hr2 hcc
  have hc1 : ¬ c = 1 := by omega
  have hc5 : ¬ c = 5 := by omega
  have hc9 : ¬ c = 9 := by omega
  have HB := Lib.hid ((Below.refl w.heap.size w).alloc (Nat.le_refl _) (.cells #[.int .i64 0, .int .i64 0, .int .i64 0] 44))
  have HZ := Lib.hid (Tri.new w 0 0 0)
  have HbbG := Lib.hid (show bb < w.heap.size from cell_lt HCC.out)
  obtain ⟨hlb0, hlb1⟩ := hlb
  obtain ⟨hlw0, hlw1⟩ := hlw
  obtain ⟨hhg0, hhg1⟩ := hhg
  obtain ⟨hkd0, hkd1⟩ := hkd
  go_enter Try.func33, Try.ntmps33
  go_wp2_with fail
  refine (T1.out _ (bytes_more (bytes_keep HR.out HB.out) HB.out.size)).mono ?_
  rintro e w1 ⟨rfl, hb⟩
  replace HB := Lib.hid (below_on HB.out hb)
  replace HZ := Lib.hid (HZ.out.keep hb)
  clear hb
  go_wp2_with fail
  refine (T5.out _ (bytes_more (bytes_keep HR.out HB.out) HB.out.size)).mono ?_
  rintro e w2 ⟨rfl, hb⟩
  replace HB := Lib.hid (below_on HB.out hb)
  replace HZ := Lib.hid (HZ.out.keep hb)
  clear hb
  go_wp2_with fail
  refine (T9.out _ (bytes_more (bytes_keep HR.out HB.out) HB.out.size)).mono ?_
  rintro e w3 ⟨rfl, hb⟩
  replace HB := Lib.hid (below_on HB.out hb)
  replace HZ := Lib.hid (HZ.out.keep hb)
  clear hb
  have hck : w3.cell? ⟨bb, off, none⟩ = some (.int .u8 k) := (HB.out.cell (p := ⟨bb, off, none⟩) HbbG.out).trans HCC.out
  obtain ⟨w4, hstt, ht4, hb4⟩ := (Tri.new w3 0 0 0).store k l s
  have hb34 := ((Below.refl w3.heap.size w3).alloc (Nat.le_refl _) (.cells #[.int .i64 0, .int .i64 0, .int .i64 0] 44)).trans hb4
  have hld4 := ht4.load
  have HT4 := Lib.hid ht4
  replace HB := Lib.hid (below_on HB.out hb34)
  replace HZ := Lib.hid (HZ.out.keep hb34)
  clear hb4 hb34 ht4
  have hse : hi * 4294967296 + lo = s := HST.out.symm
  go_wp2_with fail
  refine (rPack_ok k l s A2 c2 d w4 HOK.out (bytes_more (bytes_keep HR2.out HB.out) HB.out.size)).mono ?_
  rintro e w5 ⟨v5, rfl, ho5, hb⟩
  rw [← HU.out] at ho5
  obtain ⟨A5, c5, rfl, hr5⟩ := ho5.reads
  replace HB := Lib.hid (below_on HB.out hb)
  replace HZ := Lib.hid (HZ.out.keep hb)
  replace HT4 := Lib.hid (HT4.out.keep hb)
  have hs1 := run_str (P := Try.prog) w5 40 9 5 Try.underlying40 Try.underlying5 Try.underlying9 (c := c5) hr5
  have hs2 := run_str (P := Try.prog) w5 40 9 5 Try.underlying40 Try.underlying5 Try.underlying9 (c := c) (bytes_keep HR.out HB.out)
  generalize u.length = N5 at hs1 ⊢
  have hq : ((str u).toList == (str b).toList) = true := by
    exact str_eq HF.out
  obtain ⟨w6, hstu, ht6, hb6⟩ := HZ.out.store k l s
  have hld5 := HT4.out.load
  have hld6 := ht6.load
  have HB6 := Lib.hid (HB.out.trans hb6)
  clear ht6 hb6 hb hstt hld4 hse ho5 hr5
  go_wp2
  refine bodyPost_ret (v := .tuple #[oob k l s, .int .i64 0]) ?_ rfl ⟨rfl, HB6.out⟩
  simp [results, Try.results33, go_sem, hld6]

/-- The document's Unpack, whatever it is given. -/
theorem rUnpack_any (A A2 : Option Addr) (n c m c2 : Nat) (b d : List UInt8) (w : World) (hnc : n ≤ c) (hr : Bytes w w.heap.size A n b) (hr2 : Bytes w w.heap.size A2 m d) :
    Calls Try.prog 33 #[.slice A n c, .slice A2 m c2] w fun e w' => e = .returned (.tuple #[oob (Oob.unp b d).1 (Oob.unp b d).2.1 (Oob.unp b d).2.2.1, .int .i64 (Oob.unp b d).2.2.2]) ∧ Below w.heap.size w w' := by
  have hn := hr.1
  have hm := hr2.1
  by_cases h : n = 17 ∧ m = 16
  · obtain ⟨rfl, rfl⟩ := h
    obtain ⟨bb, off, x, rfl, _⟩ := hr.at_ (show 0 < 17 by omega)
    by_cases hok : Oob.Ok (Oob.kindOf b) (Oob.lbaOf b) (Oob.stampOf b)
    · have hhi : ¬ 262144 < Oob.highOf b := by
        have h1 := hok.2.2.2.2.2
        have h2 := Oob.low_bd b
        unfold Oob.stampOf at h1
        omega
      by_cases hf : Oob.full (Oob.kindOf b) (Oob.lbaOf b) (Oob.stampOf b) d = b
      · rw [Oob.unp_ok ⟨hn, hm, hok⟩ hf]
        exact rUnpack_yes bb off A2 c c2 b d w hnc hr hr2 hhi hok hf
      · rw [Oob.unp_sum ⟨hn, hm, hok⟩ hf]
        exact rUnpack_sum bb off A2 c c2 b d w hnc hr hr2 hhi hok hf
    · rw [Oob.unp_form (fun h => hok h.2.2)]
      by_cases hhi : 262144 < Oob.highOf b
      · exact rUnpack_high bb off A2 c c2 b d w hnc hr hr2 hhi
      · exact rUnpack_bad bb off A2 c c2 b d w hnc hr hr2 hhi hok
  · rw [Oob.unp_form (fun h2 => h ⟨by omega, by omega⟩)]
    exact rUnpack_len A A2 n c m c2 w h

end Go.Proofs.Yteonjdigcecceaa.OobPkg
