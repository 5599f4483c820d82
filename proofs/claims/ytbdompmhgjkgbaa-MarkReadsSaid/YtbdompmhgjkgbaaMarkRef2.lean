/-
  The document's own answer for layer 6, the second part: Read. It tells the same as package mark.
-/
import Derived.Test.YtbdompmhgjkgbaaMarkRef
namespace Go.Proofs.Ytbdompmhgjkgbaa.MarkPkg
open Go.RowKit Go.ChangeShapes Go.WideShapes Go.Proofs.Ytbdompmhgjkgbaa.OobPkg
set_option maxRecDepth 4000

theorem bytes_behind {w : World} {B b off n : Nat} {xs : List UInt8} (h : Bytes w B (some ⟨b, off, none⟩) n xs) (m : Nat) : Bytes w B (some ⟨b, off + m, none⟩) (n - m) (xs.drop m) := by
  have hl := h.1
  refine ⟨by simp; omega, fun i hi => ?_⟩
  simp at hi
  obtain ⟨b2, off2, e, hb, hc⟩ := h.2 (m + i) (by omega)
  injection e with e
  injection e with e1 e2
  subst e1 e2
  refine ⟨b, off + m, rfl, hb, ?_⟩
  rw [Nat.add_assoc, hc]
  simp

/-- The document's TakeFixed of the bytes from place p on. -/
theorem rtake_at (p : Nat) (hp : p + 4 ≤ 16) (bb off c : Nat) (b : List UInt8) (w : World) (hr : Bytes w w.heap.size (some ⟨bb, off, none⟩) 16 b) :
    Calls Try.prog 22 #[.slice (some ⟨bb, off + p, none⟩) (16 - p) (c - p)] w fun e w' => e = .returned (.tuple #[.int .u32 (Wire.fk (b.drop p) 4 : Int), .int .i64 0]) ∧ Below w.heap.size w w' := by
  have h := rtakeFixed_any (some ⟨bb, off + p, none⟩) (16 - p) (c - p) w.heap.size (b.drop p) w (by show 16 - p ≤ 9223372036854775807; omega) (bytes_behind hr p)
  rw [tf_is (show 4 ≤ (b.drop p).length by rw [List.length_drop, hr.1]; omega)] at h
  exact h

theorem rRead_len (A : Option Addr) (n c : Nat) (w : World) (h : n ≠ 16) :
    Calls Try.prog 16 #[.slice A n c] w fun e w' => e = .returned (.tuple #[tri 0 0 0, .int .i64 3]) ∧ Below w.heap.size w w' := by
  have HB := Lib.hid ((Below.refl w.heap.size w).alloc (Nat.le_refl _) (.cells #[.int .i64 0, .int .i64 0, .int .i64 0] 23))
  have hn2 : ¬ (n : Int) = 16 := by omega
  clear h
  go_enter Try.func16, Try.ntmps16
  go_wp2
  refine bodyPost_ret (v := .tuple #[tri 0 0 0, .int .i64 3]) ?_ rfl ⟨rfl, HB.out⟩
  simp [results, Try.results16, go_sem]

attribute [-go_sem] loadCellsFrom storeCells

set_option maxHeartbeats 1000000 in
theorem rRead_high (bb off c : Nat) (b : List UInt8) (w : World) (hnc : 16 ≤ c) (hr : Bytes w w.heap.size (some ⟨bb, off, none⟩) 16 b) (hhi : 262144 < Mark.highOf b) :
    Calls Try.prog 16 #[.slice (some ⟨bb, off, none⟩) 16 c] w fun e w' => e = .returned (.tuple #[tri 0 0 0, .int .i64 3]) ∧ Below w.heap.size w w' := by
  have t4 : ∀ w', Bytes w' w'.heap.size (some ⟨bb, off, none⟩) 16 b → Calls Try.prog 22 #[.slice (some ⟨bb, off + 4, none⟩) 12 (c - 4)] w' fun e w'' => e = .returned (.tuple #[.int .u32 (Mark.wearOf b), .int .i64 0]) ∧ Below w'.heap.size w' w'' := fun w' h => rtake_at 4 (by omega) bb off c b w' h
  have t8 : ∀ w', Bytes w' w'.heap.size (some ⟨bb, off, none⟩) 16 b → Calls Try.prog 22 #[.slice (some ⟨bb, off + 8, none⟩) 8 (c - 8)] w' fun e w'' => e = .returned (.tuple #[.int .u32 (Mark.lowOf b), .int .i64 0]) ∧ Below w'.heap.size w' w'' := fun w' h => rtake_at 8 (by omega) bb off c b w' h
  have t12 : ∀ w', Bytes w' w'.heap.size (some ⟨bb, off, none⟩) 16 b → Calls Try.prog 22 #[.slice (some ⟨bb, off + 12, none⟩) 4 (c - 12)] w' fun e w'' => e = .returned (.tuple #[.int .u32 (Mark.highOf b), .int .i64 0]) ∧ Below w'.heap.size w' w'' := fun w' h => rtake_at 12 (by omega) bb off c b w' h
  have hlb := Mark.wear_bd b
  have hlw := Mark.low_bd b
  have hhg := Mark.high_bd b
  have hst : Mark.stampOf b = Mark.highOf b * 4294967296 + Mark.lowOf b := rfl
  have hcc : w.cell? ⟨bb, off + 2, none⟩ = some (.int .u8 (Mark.lineOf b)) :=
    bytes_cell hr rfl (k := 2) (x := b.getD 2 0) (by rw [List.getD, List.getElem?_eq_getElem (by rw [hr.1]; omega)]; rfl)
  have hkd := Mark.line_bd b
  generalize Mark.highOf b = hi at t12 hhg hst hhi
  generalize Mark.lowOf b = lo at t8 hlw hst
  generalize Mark.wearOf b = l at t4 hlb
  generalize Mark.lineOf b = k at hkd hcc
  clear hst
  have T4 := Lib.hid t4
  have T8 := Lib.hid t8
  have T12 := Lib.hid t12
  have HR := Lib.hid hr
  have HCC := Lib.hid hcc
  clear t4 t8 t12 hr hcc
  have hc4 : ¬ c = 4 := by omega
  have hc8 : ¬ c = 8 := by omega
  have hc12 : ¬ c = 12 := by omega
  have HB := Lib.hid ((Below.refl w.heap.size w).alloc (Nat.le_refl _) (.cells #[.int .i64 0, .int .i64 0, .int .i64 0] 23))
  have HZ := Lib.hid (Three.new 23 w 0 0 0)
  have HbbG := Lib.hid (show bb < w.heap.size from cell_lt HCC.out)
  obtain ⟨hlb0, hlb1⟩ := hlb
  obtain ⟨hlw0, hlw1⟩ := hlw
  obtain ⟨hhg0, hhg1⟩ := hhg
  obtain ⟨hkd0, hkd1⟩ := hkd
  go_enter Try.func16, Try.ntmps16
  go_wp2_with fail
  refine (T4.out _ (bytes_more (bytes_keep HR.out HB.out) HB.out.size)).mono ?_
  rintro e w1 ⟨rfl, hb⟩
  replace HB := Lib.hid (below_on HB.out hb)
  replace HZ := Lib.hid (HZ.out.keep hb)
  clear hb
  go_wp2_with fail
  refine (T8.out _ (bytes_more (bytes_keep HR.out HB.out) HB.out.size)).mono ?_
  rintro e w2 ⟨rfl, hb⟩
  replace HB := Lib.hid (below_on HB.out hb)
  replace HZ := Lib.hid (HZ.out.keep hb)
  clear hb
  go_wp2_with fail
  refine (T12.out _ (bytes_more (bytes_keep HR.out HB.out) HB.out.size)).mono ?_
  rintro e w3 ⟨rfl, hb⟩
  replace HB := Lib.hid (below_on HB.out hb)
  replace HZ := Lib.hid (HZ.out.keep hb)
  clear hb
  obtain ⟨w6, hstt, ht6, hb6⟩ := HZ.out.store Try.prog 0 0 0
  have hld6 := ht6.load (P := Try.prog)
  have HB6 := Lib.hid (HB.out.trans hb6)
  clear ht6 hb6
  go_wp2
  refine bodyPost_ret (v := .tuple #[tri 0 0 0, .int .i64 3]) ?_ rfl ⟨rfl, HB6.out⟩
  simp [results, Try.results16, go_sem, hld6]

set_option maxHeartbeats 1000000 in
theorem rRead_bad (bb off c : Nat) (b : List UInt8) (w : World) (hnc : 16 ≤ c) (hr : Bytes w w.heap.size (some ⟨bb, off, none⟩) 16 b) (hhi : ¬ 262144 < Mark.highOf b) (hok : ¬ Mark.Ok (Mark.lineOf b) (Mark.wearOf b) (Mark.stampOf b)) :
    Calls Try.prog 16 #[.slice (some ⟨bb, off, none⟩) 16 c] w fun e w' => e = .returned (.tuple #[tri 0 0 0, .int .i64 3]) ∧ Below w.heap.size w w' := by
  have t4 : ∀ w', Bytes w' w'.heap.size (some ⟨bb, off, none⟩) 16 b → Calls Try.prog 22 #[.slice (some ⟨bb, off + 4, none⟩) 12 (c - 4)] w' fun e w'' => e = .returned (.tuple #[.int .u32 (Mark.wearOf b), .int .i64 0]) ∧ Below w'.heap.size w' w'' := fun w' h => rtake_at 4 (by omega) bb off c b w' h
  have t8 : ∀ w', Bytes w' w'.heap.size (some ⟨bb, off, none⟩) 16 b → Calls Try.prog 22 #[.slice (some ⟨bb, off + 8, none⟩) 8 (c - 8)] w' fun e w'' => e = .returned (.tuple #[.int .u32 (Mark.lowOf b), .int .i64 0]) ∧ Below w'.heap.size w' w'' := fun w' h => rtake_at 8 (by omega) bb off c b w' h
  have t12 : ∀ w', Bytes w' w'.heap.size (some ⟨bb, off, none⟩) 16 b → Calls Try.prog 22 #[.slice (some ⟨bb, off + 12, none⟩) 4 (c - 12)] w' fun e w'' => e = .returned (.tuple #[.int .u32 (Mark.highOf b), .int .i64 0]) ∧ Below w'.heap.size w' w'' := fun w' h => rtake_at 12 (by omega) bb off c b w' h
  have hlb := Mark.wear_bd b
  have hlw := Mark.low_bd b
  have hhg := Mark.high_bd b
  have hst : Mark.stampOf b = Mark.highOf b * 4294967296 + Mark.lowOf b := rfl
  have hcc : w.cell? ⟨bb, off + 2, none⟩ = some (.int .u8 (Mark.lineOf b)) :=
    bytes_cell hr rfl (k := 2) (x := b.getD 2 0) (by rw [List.getD, List.getElem?_eq_getElem (by rw [hr.1]; omega)]; rfl)
  have hkd := Mark.line_bd b
  generalize Mark.stampOf b = s at hst hok
  generalize Mark.highOf b = hi at t12 hhg hst hhi
  generalize Mark.lowOf b = lo at t8 hlw hst
  generalize Mark.wearOf b = l at t4 hlb hok
  generalize Mark.lineOf b = k at hkd hcc hok
  have HOK := Lib.hid hok
  have HST := Lib.hid hst
  clear hok hst
  have T4 := Lib.hid t4
  have T8 := Lib.hid t8
  have T12 := Lib.hid t12
  have HR := Lib.hid hr
  have HCC := Lib.hid hcc
  clear t4 t8 t12 hr hcc
  have hc4 : ¬ c = 4 := by omega
  have hc8 : ¬ c = 8 := by omega
  have hc12 : ¬ c = 12 := by omega
  have HB := Lib.hid ((Below.refl w.heap.size w).alloc (Nat.le_refl _) (.cells #[.int .i64 0, .int .i64 0, .int .i64 0] 23))
  have HZ := Lib.hid (Three.new 23 w 0 0 0)
  have HbbG := Lib.hid (show bb < w.heap.size from cell_lt HCC.out)
  obtain ⟨hlb0, hlb1⟩ := hlb
  obtain ⟨hlw0, hlw1⟩ := hlw
  obtain ⟨hhg0, hhg1⟩ := hhg
  obtain ⟨hkd0, hkd1⟩ := hkd
  go_enter Try.func16, Try.ntmps16
  go_wp2_with fail
  refine (T4.out _ (bytes_more (bytes_keep HR.out HB.out) HB.out.size)).mono ?_
  rintro e w1 ⟨rfl, hb⟩
  replace HB := Lib.hid (below_on HB.out hb)
  replace HZ := Lib.hid (HZ.out.keep hb)
  clear hb
  go_wp2_with fail
  refine (T8.out _ (bytes_more (bytes_keep HR.out HB.out) HB.out.size)).mono ?_
  rintro e w2 ⟨rfl, hb⟩
  replace HB := Lib.hid (below_on HB.out hb)
  replace HZ := Lib.hid (HZ.out.keep hb)
  clear hb
  go_wp2_with fail
  refine (T12.out _ (bytes_more (bytes_keep HR.out HB.out) HB.out.size)).mono ?_
  rintro e w3 ⟨rfl, hb⟩
  replace HB := Lib.hid (below_on HB.out hb)
  replace HZ := Lib.hid (HZ.out.keep hb)
  clear hb
  have hck : w3.cell? ⟨bb, off + 2, none⟩ = some (.int .u8 k) := (HB.out.cell (p := ⟨bb, off + 2, none⟩) HbbG.out).trans HCC.out
  obtain ⟨w4, hstt, ht4, hb4⟩ := (Three.new 23 w3 0 0 0).store Try.prog k l s
  have hb34 := ((Below.refl w3.heap.size w3).alloc (Nat.le_refl _) (.cells #[.int .i64 0, .int .i64 0, .int .i64 0] 23)).trans hb4
  have hld4 := ht4.load (P := Try.prog)
  have HT4 := Lib.hid ht4
  replace HB := Lib.hid (below_on HB.out hb34)
  replace HZ := Lib.hid (HZ.out.keep hb34)
  clear hb4 hb34 ht4
  have hse : hi * 4294967296 + lo = s := HST.out.symm
  go_wp2_with fail
  refine (rSector_bad HOK.out w4).mono ?_
  rintro e w5 ⟨rfl, hb⟩
  replace HB := Lib.hid (below_on HB.out hb)
  replace HZ := Lib.hid (HZ.out.keep hb)
  obtain ⟨w6, hstu, ht6, hb6⟩ := HZ.out.store Try.prog 0 0 0
  have hld6 := ht6.load (P := Try.prog)
  have HB6 := Lib.hid (HB.out.trans hb6)
  clear ht6 hb6 hb hstt hld4 hse
  go_wp2
  refine bodyPost_ret (v := .tuple #[tri 0 0 0, .int .i64 3]) ?_ rfl ⟨rfl, HB6.out⟩
  simp [results, Try.results16, go_sem, hld6]

set_option maxHeartbeats 1000000 in
theorem rRead_other (bb off c : Nat) (b : List UInt8) (w : World) (hnc : 16 ≤ c) (hr : Bytes w w.heap.size (some ⟨bb, off, none⟩) 16 b) (hhi : ¬ 262144 < Mark.highOf b) (hok : Mark.Ok (Mark.lineOf b) (Mark.wearOf b) (Mark.stampOf b)) (hf : Mark.code (Mark.lineOf b) (Mark.wearOf b) (Mark.stampOf b) ≠ b) :
    Calls Try.prog 16 #[.slice (some ⟨bb, off, none⟩) 16 c] w fun e w' => e = .returned (.tuple #[tri 0 0 0, .int .i64 3]) ∧ Below w.heap.size w w' := by
  have t4 : ∀ w', Bytes w' w'.heap.size (some ⟨bb, off, none⟩) 16 b → Calls Try.prog 22 #[.slice (some ⟨bb, off + 4, none⟩) 12 (c - 4)] w' fun e w'' => e = .returned (.tuple #[.int .u32 (Mark.wearOf b), .int .i64 0]) ∧ Below w'.heap.size w' w'' := fun w' h => rtake_at 4 (by omega) bb off c b w' h
  have t8 : ∀ w', Bytes w' w'.heap.size (some ⟨bb, off, none⟩) 16 b → Calls Try.prog 22 #[.slice (some ⟨bb, off + 8, none⟩) 8 (c - 8)] w' fun e w'' => e = .returned (.tuple #[.int .u32 (Mark.lowOf b), .int .i64 0]) ∧ Below w'.heap.size w' w'' := fun w' h => rtake_at 8 (by omega) bb off c b w' h
  have t12 : ∀ w', Bytes w' w'.heap.size (some ⟨bb, off, none⟩) 16 b → Calls Try.prog 22 #[.slice (some ⟨bb, off + 12, none⟩) 4 (c - 12)] w' fun e w'' => e = .returned (.tuple #[.int .u32 (Mark.highOf b), .int .i64 0]) ∧ Below w'.heap.size w' w'' := fun w' h => rtake_at 12 (by omega) bb off c b w' h
  have hlb := Mark.wear_bd b
  have hlw := Mark.low_bd b
  have hhg := Mark.high_bd b
  have hst : Mark.stampOf b = Mark.highOf b * 4294967296 + Mark.lowOf b := rfl
  have hcc : w.cell? ⟨bb, off + 2, none⟩ = some (.int .u8 (Mark.lineOf b)) :=
    bytes_cell hr rfl (k := 2) (x := b.getD 2 0) (by rw [List.getD, List.getElem?_eq_getElem (by rw [hr.1]; omega)]; rfl)
  have hkd := Mark.line_bd b
  obtain ⟨u, hu⟩ : ∃ u, u = Mark.code (Mark.lineOf b) (Mark.wearOf b) (Mark.stampOf b) := ⟨_, rfl⟩
  rw [← hu] at hf
  have HF := Lib.hid hf
  clear hf
  generalize Mark.stampOf b = s at hst hok hu
  generalize Mark.highOf b = hi at t12 hhg hst hhi
  generalize Mark.lowOf b = lo at t8 hlw hst
  generalize Mark.wearOf b = l at t4 hlb hok hu
  generalize Mark.lineOf b = k at hkd hcc hok hu
  have HOK := Lib.hid hok
  have HST := Lib.hid hst
  clear hok hst
  have HU := Lib.hid hu
  clear hu
  have T4 := Lib.hid t4
  have T8 := Lib.hid t8
  have T12 := Lib.hid t12
  have HR := Lib.hid hr
  have HCC := Lib.hid hcc
  clear t4 t8 t12 hr hcc
  have hc4 : ¬ c = 4 := by omega
  have hc8 : ¬ c = 8 := by omega
  have hc12 : ¬ c = 12 := by omega
  have HB := Lib.hid ((Below.refl w.heap.size w).alloc (Nat.le_refl _) (.cells #[.int .i64 0, .int .i64 0, .int .i64 0] 23))
  have HZ := Lib.hid (Three.new 23 w 0 0 0)
  have HbbG := Lib.hid (show bb < w.heap.size from cell_lt HCC.out)
  obtain ⟨hlb0, hlb1⟩ := hlb
  obtain ⟨hlw0, hlw1⟩ := hlw
  obtain ⟨hhg0, hhg1⟩ := hhg
  obtain ⟨hkd0, hkd1⟩ := hkd
  go_enter Try.func16, Try.ntmps16
  go_wp2_with fail
  refine (T4.out _ (bytes_more (bytes_keep HR.out HB.out) HB.out.size)).mono ?_
  rintro e w1 ⟨rfl, hb⟩
  replace HB := Lib.hid (below_on HB.out hb)
  replace HZ := Lib.hid (HZ.out.keep hb)
  clear hb
  go_wp2_with fail
  refine (T8.out _ (bytes_more (bytes_keep HR.out HB.out) HB.out.size)).mono ?_
  rintro e w2 ⟨rfl, hb⟩
  replace HB := Lib.hid (below_on HB.out hb)
  replace HZ := Lib.hid (HZ.out.keep hb)
  clear hb
  go_wp2_with fail
  refine (T12.out _ (bytes_more (bytes_keep HR.out HB.out) HB.out.size)).mono ?_
  rintro e w3 ⟨rfl, hb⟩
  replace HB := Lib.hid (below_on HB.out hb)
  replace HZ := Lib.hid (HZ.out.keep hb)
  clear hb
  have hck : w3.cell? ⟨bb, off + 2, none⟩ = some (.int .u8 k) := (HB.out.cell (p := ⟨bb, off + 2, none⟩) HbbG.out).trans HCC.out
  obtain ⟨w4, hstt, ht4, hb4⟩ := (Three.new 23 w3 0 0 0).store Try.prog k l s
  have hb34 := ((Below.refl w3.heap.size w3).alloc (Nat.le_refl _) (.cells #[.int .i64 0, .int .i64 0, .int .i64 0] 23)).trans hb4
  have hld4 := ht4.load (P := Try.prog)
  have HT4 := Lib.hid ht4
  replace HB := Lib.hid (below_on HB.out hb34)
  replace HZ := Lib.hid (HZ.out.keep hb34)
  clear hb4 hb34 ht4
  have hse : hi * 4294967296 + lo = s := HST.out.symm
  go_wp2_with fail
  refine (rSector_ok HOK.out w4).mono ?_
  rintro e w5 ⟨A5, c5, rfl, hr5, hb⟩
  rw [← HU.out] at hr5
  replace HB := Lib.hid (below_on HB.out hb)
  replace HZ := Lib.hid (HZ.out.keep hb)
  replace HT4 := Lib.hid (HT4.out.keep hb)
  have hs1 := run_str (P := Try.prog) w5 25 9 5 Try.underlying25 Try.underlying5 Try.underlying9 (c := c5) hr5
  have hs2 := run_str (P := Try.prog) w5 25 9 5 Try.underlying25 Try.underlying5 Try.underlying9 (c := c) (bytes_keep HR.out HB.out)
  have hq := str_ne HF.out
  obtain ⟨w6, hstu, ht6, hb6⟩ := HZ.out.store Try.prog 0 0 0
  have hld5 := HT4.out.load (P := Try.prog)
  have hld6 := ht6.load (P := Try.prog)
  have HB6 := Lib.hid (HB.out.trans hb6)
  clear ht6 hb6 hb hstt hld4 hse hr5
  go_wp2
  refine bodyPost_ret (v := .tuple #[tri 0 0 0, .int .i64 3]) ?_ rfl ⟨rfl, HB6.out⟩
  simp [results, Try.results16, go_sem, hld6]

set_option maxHeartbeats 1000000 in
theorem rRead_yes (bb off c : Nat) (b : List UInt8) (w : World) (hnc : 16 ≤ c) (hr : Bytes w w.heap.size (some ⟨bb, off, none⟩) 16 b) (hhi : ¬ 262144 < Mark.highOf b) (hok : Mark.Ok (Mark.lineOf b) (Mark.wearOf b) (Mark.stampOf b)) (hf : Mark.code (Mark.lineOf b) (Mark.wearOf b) (Mark.stampOf b) = b) :
    Calls Try.prog 16 #[.slice (some ⟨bb, off, none⟩) 16 c] w fun e w' => e = .returned (.tuple #[tri (Mark.lineOf b) (Mark.wearOf b) (Mark.stampOf b), .int .i64 0]) ∧ Below w.heap.size w w' := by
  have t4 : ∀ w', Bytes w' w'.heap.size (some ⟨bb, off, none⟩) 16 b → Calls Try.prog 22 #[.slice (some ⟨bb, off + 4, none⟩) 12 (c - 4)] w' fun e w'' => e = .returned (.tuple #[.int .u32 (Mark.wearOf b), .int .i64 0]) ∧ Below w'.heap.size w' w'' := fun w' h => rtake_at 4 (by omega) bb off c b w' h
  have t8 : ∀ w', Bytes w' w'.heap.size (some ⟨bb, off, none⟩) 16 b → Calls Try.prog 22 #[.slice (some ⟨bb, off + 8, none⟩) 8 (c - 8)] w' fun e w'' => e = .returned (.tuple #[.int .u32 (Mark.lowOf b), .int .i64 0]) ∧ Below w'.heap.size w' w'' := fun w' h => rtake_at 8 (by omega) bb off c b w' h
  have t12 : ∀ w', Bytes w' w'.heap.size (some ⟨bb, off, none⟩) 16 b → Calls Try.prog 22 #[.slice (some ⟨bb, off + 12, none⟩) 4 (c - 12)] w' fun e w'' => e = .returned (.tuple #[.int .u32 (Mark.highOf b), .int .i64 0]) ∧ Below w'.heap.size w' w'' := fun w' h => rtake_at 12 (by omega) bb off c b w' h
  have hlb := Mark.wear_bd b
  have hlw := Mark.low_bd b
  have hhg := Mark.high_bd b
  have hst : Mark.stampOf b = Mark.highOf b * 4294967296 + Mark.lowOf b := rfl
  have hcc : w.cell? ⟨bb, off + 2, none⟩ = some (.int .u8 (Mark.lineOf b)) :=
    bytes_cell hr rfl (k := 2) (x := b.getD 2 0) (by rw [List.getD, List.getElem?_eq_getElem (by rw [hr.1]; omega)]; rfl)
  have hkd := Mark.line_bd b
  obtain ⟨u, hu⟩ : ∃ u, u = Mark.code (Mark.lineOf b) (Mark.wearOf b) (Mark.stampOf b) := ⟨_, rfl⟩
  rw [← hu] at hf
  have HF := Lib.hid hf
  clear hf
  generalize Mark.stampOf b = s at hst hok hu ⊢
  generalize Mark.highOf b = hi at t12 hhg hst hhi
  generalize Mark.lowOf b = lo at t8 hlw hst
  generalize Mark.wearOf b = l at t4 hlb hok hu ⊢
  generalize Mark.lineOf b = k at hkd hcc hok hu ⊢
  have HOK := Lib.hid hok
  have HST := Lib.hid hst
  clear hok hst
  have HU := Lib.hid hu
  clear hu
  have T4 := Lib.hid t4
  have T8 := Lib.hid t8
  have T12 := Lib.hid t12
  have HR := Lib.hid hr
  have HCC := Lib.hid hcc
  clear t4 t8 t12 hr hcc
  have hc4 : ¬ c = 4 := by omega
  have hc8 : ¬ c = 8 := by omega
  have hc12 : ¬ c = 12 := by omega
  have HB := Lib.hid ((Below.refl w.heap.size w).alloc (Nat.le_refl _) (.cells #[.int .i64 0, .int .i64 0, .int .i64 0] 23))
  have HZ := Lib.hid (Three.new 23 w 0 0 0)
  have HbbG := Lib.hid (show bb < w.heap.size from cell_lt HCC.out)
  obtain ⟨hlb0, hlb1⟩ := hlb
  obtain ⟨hlw0, hlw1⟩ := hlw
  obtain ⟨hhg0, hhg1⟩ := hhg
  obtain ⟨hkd0, hkd1⟩ := hkd
  go_enter Try.func16, Try.ntmps16
  go_wp2_with fail
  refine (T4.out _ (bytes_more (bytes_keep HR.out HB.out) HB.out.size)).mono ?_
  rintro e w1 ⟨rfl, hb⟩
  replace HB := Lib.hid (below_on HB.out hb)
  replace HZ := Lib.hid (HZ.out.keep hb)
  clear hb
  go_wp2_with fail
  refine (T8.out _ (bytes_more (bytes_keep HR.out HB.out) HB.out.size)).mono ?_
  rintro e w2 ⟨rfl, hb⟩
  replace HB := Lib.hid (below_on HB.out hb)
  replace HZ := Lib.hid (HZ.out.keep hb)
  clear hb
  go_wp2_with fail
  refine (T12.out _ (bytes_more (bytes_keep HR.out HB.out) HB.out.size)).mono ?_
  rintro e w3 ⟨rfl, hb⟩
  replace HB := Lib.hid (below_on HB.out hb)
  replace HZ := Lib.hid (HZ.out.keep hb)
  clear hb
  have hck : w3.cell? ⟨bb, off + 2, none⟩ = some (.int .u8 k) := (HB.out.cell (p := ⟨bb, off + 2, none⟩) HbbG.out).trans HCC.out
  obtain ⟨w4, hstt, ht4, hb4⟩ := (Three.new 23 w3 0 0 0).store Try.prog k l s
  have hb34 := ((Below.refl w3.heap.size w3).alloc (Nat.le_refl _) (.cells #[.int .i64 0, .int .i64 0, .int .i64 0] 23)).trans hb4
  have hld4 := ht4.load (P := Try.prog)
  have HT4 := Lib.hid ht4
  replace HB := Lib.hid (below_on HB.out hb34)
  replace HZ := Lib.hid (HZ.out.keep hb34)
  clear hb4 hb34 ht4
  have hse : hi * 4294967296 + lo = s := HST.out.symm
  go_wp2_with fail
  refine (rSector_ok HOK.out w4).mono ?_
  rintro e w5 ⟨A5, c5, rfl, hr5, hb⟩
  rw [← HU.out] at hr5
  replace HB := Lib.hid (below_on HB.out hb)
  replace HZ := Lib.hid (HZ.out.keep hb)
  replace HT4 := Lib.hid (HT4.out.keep hb)
  have hs1 := run_str (P := Try.prog) w5 25 9 5 Try.underlying25 Try.underlying5 Try.underlying9 (c := c5) hr5
  have hs2 := run_str (P := Try.prog) w5 25 9 5 Try.underlying25 Try.underlying5 Try.underlying9 (c := c) (bytes_keep HR.out HB.out)
  rw [HF.out] at hs1
  have hq := str_neq b
  obtain ⟨w6, hstu, ht6, hb6⟩ := HZ.out.store Try.prog k l s
  have hld5 := HT4.out.load (P := Try.prog)
  have hld6 := ht6.load (P := Try.prog)
  have HB6 := Lib.hid (HB.out.trans hb6)
  clear ht6 hb6 hb hstt hld4 hse hr5
  go_wp2
  refine bodyPost_ret (v := .tuple #[tri k l s, .int .i64 0]) ?_ rfl ⟨rfl, HB6.out⟩
  simp [results, Try.results16, go_sem, hld6]

/-- The document's Read, whatever it is given. -/
theorem rRead_any (A : Option Addr) (n c : Nat) (b : List UInt8) (w : World) (hnc : n ≤ c) (hr : Bytes w w.heap.size A n b) :
    Calls Try.prog 16 #[.slice A n c] w fun e w' => e = .returned (.tuple #[tri (Mark.rd b).1 (Mark.rd b).2.1 (Mark.rd b).2.2.1, .int .i64 (Mark.rd b).2.2.2]) ∧ Below w.heap.size w w' := by
  have hn := hr.1
  by_cases h : n = 16
  · subst h
    obtain ⟨bb, off, x, rfl, _⟩ := hr.at_ (show 0 < 16 by omega)
    by_cases hok : Mark.Ok (Mark.lineOf b) (Mark.wearOf b) (Mark.stampOf b)
    · have hhi : ¬ 262144 < Mark.highOf b := fun h => Mark.high_bad h _ _ hok
      by_cases hf : Mark.code (Mark.lineOf b) (Mark.wearOf b) (Mark.stampOf b) = b
      · rw [Mark.rd_ok ⟨hn, hok, hf⟩]
        exact rRead_yes bb off c b w hnc hr hhi hok hf
      · rw [Mark.rd_form (fun h => hf h.2.2)]
        exact rRead_other bb off c b w hnc hr hhi hok hf
    · rw [Mark.rd_form (fun h => hok h.2.1)]
      by_cases hhi : 262144 < Mark.highOf b
      · exact rRead_high bb off c b w hnc hr hhi
      · exact rRead_bad bb off c b w hnc hr hhi hok
  · rw [Mark.rd_form (fun h2 => h (by omega))]
    exact rRead_len A n c w h

end Go.Proofs.Ytbdompmhgjkgbaa.MarkPkg
