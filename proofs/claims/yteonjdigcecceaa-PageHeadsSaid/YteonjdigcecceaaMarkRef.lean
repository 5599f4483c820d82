/-
  The document's own answer for layer 6, the first part: Right, Sector, Oob. It tells the same as package mark.
-/
import Derived.Test.YteonjdigcecceaaMarkKit
import Derived.Test.YteonjdigcecceaaFixedRef
import Derived.Deep.DeepCutAuto
namespace Go.Proofs.Yteonjdigcecceaa.MarkPkg
open Go.RowKit Go.Proofs.Yteonjdigcecceaa.OobPkg
set_option maxRecDepth 4000

theorem rright_any (l r s : Int) (w : World) :
    Calls Try.prog 48 #[tri l r s] w fun e w' => e = .returned (.bool (decide (Mark.Ok l r s))) ∧ Below w.heap.size w w' := by
  have HB := Lib.hid ((Below.refl w.heap.size w).alloc (Nat.le_refl _) (.cells #[.int .i64 l, .int .i64 r, .int .i64 s] 33))
  have done : ∀ {x y : Bool} {w'}, x = y → Below w.heap.size w w' → Ending.returned (.bool x) = .returned (.bool y) ∧ Below w.heap.size w w' := fun h hb => ⟨by rw [h], hb⟩
  go_enter Try.func48, Try.ntmps48
  go_wp2
  all_goals go_ret
  all_goals refine done ?_ HB.out
  all_goals rw [Bool.eq_iff_iff]
  all_goals simp only [decide_eq_true_eq, Bool.false_eq_true, false_iff]
  all_goals unfold Mark.Ok
  all_goals omega

theorem rright_yes {l r s : Int} (h : Mark.Ok l r s) (w : World) : Calls Try.prog 48 #[tri l r s] w fun e w' => e = .returned (.bool true) ∧ Below w.heap.size w w' := by
  have := rright_any l r s w
  rwa [decide_eq_true h] at this

theorem rright_no {l r s : Int} (h : ¬ Mark.Ok l r s) (w : World) : Calls Try.prog 48 #[tri l r s] w fun e w' => e = .returned (.bool false) ∧ Below w.heap.size w w' := by
  have := rright_any l r s w
  rwa [decide_eq_false h] at this

theorem rfixed_is (n : Int) (w : World) (h0 : 0 ≤ n) (h1 : n ≤ 4294967295) :
    Calls Try.prog 44 #[.int .u32 n] w fun e w' => ∃ A c, e = .returned (.slice A 4 c) ∧ Bytes w' w'.heap.size A 4 (Wire.fx n.toNat) ∧ Below w.heap.size w w' := by
  refine (rfixed_any n w h0 h1).mono ?_
  rintro e w' ⟨v, rfl, ho, hb⟩
  obtain ⟨A, c, rfl, hr⟩ := ho.reads
  exact ⟨A, c, rfl, hr, hb⟩

theorem rSector_bad {l r s : Int} (h : ¬ Mark.Ok l r s) (w : World) :
    Calls Try.prog 30 #[tri l r s] w fun e w' => e = .returned (.tuple #[.slice none 0 0, .int .i64 1]) ∧ Below w.heap.size w w' := by
  have HB := Lib.hid ((Below.refl w.heap.size w).alloc (Nat.le_refl _) (.cells #[.int .i64 l, .int .i64 r, .int .i64 s] 33))
  have HR := Lib.hid (fun w => rright_no h w)
  clear h
  go_enter Try.func30, Try.ntmps30
  go_wp2_with fail
  refine (HR.out _).mono ?_
  rintro e w2 ⟨rfl, hb⟩
  have HB2 := Lib.hid (below_on HB.out hb)
  clear hb
  go_wp2
  go_ret2
  exact ⟨rfl, HB2.out⟩

set_option maxHeartbeats 1000000 in
theorem rSector_fit {l r s : Int} (hok : Mark.Ok l r s) (w : World) :
    Calls Try.prog 30 #[tri l r s] w fun e w' => ∃ A' c', e = .returned (.tuple #[.slice A' 16 c', .int .i64 0]) ∧ Bytes w' w'.heap.size A' 16 (Mark.code l r s) ∧ (16 ≤ c' ∧ c' ≤ maxLen) ∧ Below w.heap.size w w' := by
  have HB := Lib.hid ((Below.refl w.heap.size w).alloc (Nat.le_refl _) (.cells #[.int .i64 l, .int .i64 r, .int .i64 s] 33))
  have HT := Lib.hid (Three.new 33 w l r s)
  have HR := Lib.hid (fun w => rright_yes hok w)
  have hwr : IntKind.u32.wrap r = r := by unfold Mark.Ok at hok; rw [IntKind.wrap_u32]; omega
  have hr0 : 0 ≤ r := hok.2.2.1
  have hr1 : r ≤ 4294967295 := by have := hok.2.2.2.1; omega
  have hs0 : 0 ≤ s := hok.2.2.2.2.1
  obtain ⟨lo, hlo⟩ : ∃ lo, lo = s % 4294967296 := ⟨_, rfl⟩
  obtain ⟨hi, hhi⟩ : ∃ hi, hi = s / 4294967296 := ⟨_, rfl⟩
  obtain ⟨kb, hkb⟩ : ∃ kb, kb = UInt8.ofNat l.toNat := ⟨_, rfl⟩
  obtain ⟨lb, hlb⟩ : ∃ lb, lb = Mark.letter r := ⟨_, rfl⟩
  obtain ⟨q7, hq7⟩ : ∃ q7, q7 = r % 7 := ⟨_, rfl⟩
  have hwk : IntKind.u8.wrap l = (kb.toNat : Int) := by
    unfold Mark.Ok at hok
    rw [hkb, IntKind.wrap_u8, UInt8.toNat_ofNat']
    omega
  have hm7 : r.tmod 7 = q7 := by rw [hq7]; exact Int.tmod_eq_emod_of_nonneg hr0
  have hm70 : 0 ≤ q7 := by omega
  have hm77 : q7 < 7 := by omega
  have hwb : IntKind.u8.wrap (65 + q7) = (lb.toNat : Int) := by
    rw [hlb, Mark.letter, IntKind.wrap_u8, UInt8.toNat_ofNat']
    omega
  have hwlo : IntKind.u32.wrap (s % 4294967296) = lo := by rw [hlo, IntKind.wrap_u32]; omega
  have hwhi : wrap64 (s.tdiv 4294967296) % 4294967296 = hi := by unfold Mark.Ok at hok; rw [hhi, Int.tdiv_eq_ediv_of_nonneg hs0, IntWalk.wrap64_in _ ⟨by omega, by omega⟩]; omega
  have hlo0 : 0 ≤ lo := by omega
  have hlo1 : lo ≤ 4294967295 := by omega
  have hhi0 : 0 ≤ hi := by omega
  have hhi1 : hi ≤ 4294967295 := by unfold Mark.Ok at hok; omega
  have HKB := Lib.hid hkb
  have HLB := Lib.hid hlb
  have HLO := Lib.hid hlo
  have HHI := Lib.hid hhi
  clear hok hkb hlb hlo hhi hq7
  go_enter Try.func30, Try.ntmps30
  go_wp2_with fail
  refine (HR.out _).mono ?_
  rintro e w1 ⟨rfl, hb⟩
  replace HB := Lib.hid (below_on HB.out hb)
  replace HT := Lib.hid (HT.out.keep hb)
  clear hb HR
  have cc0 := HT.out.c0
  have cc1 := HT.out.c1
  have hG1 : w.heap.size + 1 ≤ w1.heap.size := HT.out.lt
  have HO := Lib.hid ((own_new w1 5 [72, 76, kb, lb] _ rfl (show 4 ≤ maxLen by decide)).le hG1)
  have hbn := (Below.refl w1.heap.size w1).alloc (Nat.le_refl _) (.cells #[.int .u8 72, .int .u8 76, .int .u8 (kb.toNat : Int), .int .u8 (lb.toNat : Int)] 5)
  go_upto_region 4 with fail
  refine at_world ?_
  intro w2 hw2
  replace HO := Lib.hid (show Own w2 (w.heap.size + 1) 5 (.slice (some ⟨w1.heap.size, 0, none⟩) 4 4) [72, 76, kb, lb] by rw [hw2]; exact HO.out)
  rw [← hw2] at hbn
  replace HB := Lib.hid (below_on HB.out hbn)
  replace HT := Lib.hid (HT.out.keep hbn)
  obtain ⟨y0, hy0⟩ : ∃ y, y = [72, 76, kb, lb] := ⟨_, rfl⟩
  rw [← hy0] at HO
  have HY := Lib.hid (show y0.length = 4 by rw [hy0]; rfl)
  have HEy0 := Lib.hid hy0
  clear hw2 hbn hy0 cc0 cc1 hG1
  have cc := HT.out.c1
  go_wp2_with fail
  refine (rfixed_is r _ hr0 hr1).mono ?_
  rintro e w3 ⟨A1, c1, rfl, hr, hb⟩
  replace HO := Lib.hid (HO.out.keep (w' := w3) (fun k hk => hb.block k (HO.out.lt k hk)))
  replace HB := Lib.hid (below_on HB.out hb)
  replace HT := Lib.hid (HT.out.keep hb)
  have HR := Lib.hid hr
  have hG : w.heap.size + 1 ≤ w3.heap.size := HT.out.lt
  have HL := Lib.hid (show y0.length + 4 ≤ 140737488355328 by have := HY.out; omega)
  clear hr hb cc
  go_wp2_with (at_builtin; refine wpList_append_bytes _ rfl _ _ _ rfl (w.heap.size + 1) 5 Try.underlying40 info8 (.slice (some ⟨w1.heap.size, 0, none⟩) 4 4) y0 rfl HO.out w3.heap.size A1 4 c1 (Wire.fx (r).toNat) rfl HR.out HL.out hG ?_)
  intro v4 w4 ho hg _
  have hbk := (Below.refl (w.heap.size + 1) w3).grown hg hG HO.out.block
  replace HT := Lib.hid (HT.out.under hbk (by omega))
  replace HB := Lib.hid (HB.out.trans (hbk.mono (by omega)))
  obtain ⟨y1, hy1⟩ : ∃ y, y = y0 ++ Wire.fx (r).toNat := ⟨_, rfl⟩
  rw [← hy1] at ho
  replace HY := Lib.hid (show y1.length = 8 by rw [hy1, List.length_append, HY.out]; rfl)
  have HEy1 := Lib.hid hy1
  replace HO := Lib.hid ho
  clear ho hg hbk hy1 HR HL hG
  have cc := HT.out.c2
  go_wp2_with fail
  refine (rfixed_is lo _ hlo0 hlo1).mono ?_
  rintro e w5 ⟨A2, c2, rfl, hr, hb⟩
  replace HO := Lib.hid (HO.out.keep (w' := w5) (fun k hk => hb.block k (HO.out.lt k hk)))
  replace HB := Lib.hid (below_on HB.out hb)
  replace HT := Lib.hid (HT.out.keep hb)
  have HR := Lib.hid hr
  have hG : w.heap.size + 1 ≤ w5.heap.size := HT.out.lt
  have HL := Lib.hid (show y1.length + 4 ≤ 140737488355328 by have := HY.out; omega)
  clear hr hb cc
  go_wp2_with (at_builtin; refine wpList_append_bytes _ rfl _ _ _ rfl (w.heap.size + 1) 5 Try.underlying40 info8 v4 y1 rfl HO.out w5.heap.size A2 4 c2 (Wire.fx (lo).toNat) rfl HR.out HL.out hG ?_)
  intro v6 w6 ho hg _
  have hbk := (Below.refl (w.heap.size + 1) w5).grown hg hG HO.out.block
  replace HT := Lib.hid (HT.out.under hbk (by omega))
  replace HB := Lib.hid (HB.out.trans (hbk.mono (by omega)))
  obtain ⟨y2, hy2⟩ : ∃ y, y = y1 ++ Wire.fx (lo).toNat := ⟨_, rfl⟩
  rw [← hy2] at ho
  replace HY := Lib.hid (show y2.length = 12 by rw [hy2, List.length_append, HY.out]; rfl)
  have HEy2 := Lib.hid hy2
  replace HO := Lib.hid ho
  clear ho hg hbk hy2 HR HL hG
  have cc := HT.out.c2
  go_wp2_with fail
  refine (rfixed_is hi _ hhi0 hhi1).mono ?_
  rintro e w7 ⟨A3, c3, rfl, hr, hb⟩
  replace HO := Lib.hid (HO.out.keep (w' := w7) (fun k hk => hb.block k (HO.out.lt k hk)))
  replace HB := Lib.hid (below_on HB.out hb)
  replace HT := Lib.hid (HT.out.keep hb)
  have HR := Lib.hid hr
  have hG : w.heap.size + 1 ≤ w7.heap.size := HT.out.lt
  have HL := Lib.hid (show y2.length + 4 ≤ 140737488355328 by have := HY.out; omega)
  clear hr hb cc
  go_wp2_with (at_builtin; refine wpList_append_bytes _ rfl _ _ _ rfl (w.heap.size + 1) 5 Try.underlying40 info8 v6 y2 rfl HO.out w7.heap.size A3 4 c3 (Wire.fx (hi).toNat) rfl HR.out HL.out hG ?_)
  intro v8 w8 ho hg _
  have hbk := (Below.refl (w.heap.size + 1) w7).grown hg hG HO.out.block
  replace HT := Lib.hid (HT.out.under hbk (by omega))
  replace HB := Lib.hid (HB.out.trans (hbk.mono (by omega)))
  obtain ⟨y3, hy3⟩ : ∃ y, y = y2 ++ Wire.fx (hi).toNat := ⟨_, rfl⟩
  rw [← hy3] at ho
  replace HY := Lib.hid (show y3.length = 16 by rw [hy3, List.length_append, HY.out]; rfl)
  have HEy3 := Lib.hid hy3
  replace HO := Lib.hid ho
  clear ho hg hbk hy3 HR HL hG
  obtain ⟨A9, c9, rfl, hc9, hm9, hr9⟩ := HO.out.readsc
  rw [HY.out] at hr9 hc9 ⊢
  have HR9 := Lib.hid hr9
  have HC9 := Lib.hid (And.intro hc9 hm9)
  clear hr9 hc9 hm9
  go_wp2
  go_ret2
  refine ⟨_, _, rfl, ?_, HC9.out, HB.out⟩
  have h := HR9.out
  rw [HEy3.out, HEy2.out, HEy1.out, HEy0.out, HKB.out, HLB.out, HLO.out, HHI.out] at h
  simpa [Mark.code] using h

theorem rSector_ok {l r s : Int} (hok : Mark.Ok l r s) (w : World) :
    Calls Try.prog 30 #[tri l r s] w fun e w' => ∃ A' c', e = .returned (.tuple #[.slice A' 16 c', .int .i64 0]) ∧ Bytes w' w'.heap.size A' 16 (Mark.code l r s) ∧ Below w.heap.size w w' :=
  (rSector_fit hok w).mono fun _ _ ⟨A', c', h1, h2, _, h3⟩ => ⟨A', c', h1, h2, h3⟩

attribute [-go_sem] loadCellsFrom storeCells

theorem rOob_bad {l r s : Int} (h : ¬ Mark.Ok l r s) (w : World) :
    Calls Try.prog 31 #[tri l r s] w fun e w' => e = .returned (.tuple #[tri 0 0 0, .int .i64 1]) ∧ Below w.heap.size w w' := by
  have HB := Lib.hid (show Below w.heap.size w ((w.alloc (.cells #[.int .i64 l, .int .i64 r, .int .i64 s] 33)).alloc (.cells #[.int .i64 0, .int .i64 0, .int .i64 0] 44)) from ((Below.refl w.heap.size w).alloc (Nat.le_refl _) _).alloc (by simp) _)
  have HT := Lib.hid (show Three 33 ((w.alloc (.cells #[.int .i64 l, .int .i64 r, .int .i64 s] 33)).alloc (.cells #[.int .i64 0, .int .i64 0, .int .i64 0] 44)) w.heap.size l r s from (Three.new 33 w l r s).old _)
  have HZ := Lib.hid (show Three 44 ((w.alloc (.cells #[.int .i64 l, .int .i64 r, .int .i64 s] 33)).alloc (.cells #[.int .i64 0, .int .i64 0, .int .i64 0] 44)) (w.heap.size + 1) 0 0 0 from Three.newAt (by simp) 0 0 0)
  have HR := Lib.hid (fun w => rright_no h w)
  clear h
  have hld := HT.out.load (P := Try.prog)
  go_enter Try.func31, Try.ntmps31
  go_wp2_with fail
  refine (HR.out _).mono ?_
  rintro e w2 ⟨rfl, hb⟩
  have HB2 := Lib.hid (below_on HB.out hb)
  obtain ⟨w3, hst, ht, hb3⟩ := (HZ.out.keep hb).store Try.prog 0 0 0
  have hld3 := ht.load (P := Try.prog)
  have HB3 := Lib.hid (HB2.out.trans (hb3.mono (by omega)))
  clear hb hld ht hb3
  go_wp2
  refine bodyPost_ret (v := .tuple #[tri 0 0 0, .int .i64 1]) ?_ rfl ⟨rfl, HB3.out⟩
  simp [results, Try.results31, go_sem, hld3]

theorem rOob_ok {l r s : Int} (h : Mark.Ok l r s) (w : World) :
    Calls Try.prog 31 #[tri l r s] w fun e w' => e = .returned (.tuple #[tri 4 l s, .int .i64 0]) ∧ Below w.heap.size w w' := by
  have HB := Lib.hid (show Below w.heap.size w ((w.alloc (.cells #[.int .i64 l, .int .i64 r, .int .i64 s] 33)).alloc (.cells #[.int .i64 0, .int .i64 0, .int .i64 0] 44)) from ((Below.refl w.heap.size w).alloc (Nat.le_refl _) _).alloc (by simp) _)
  have HT := Lib.hid (show Three 33 ((w.alloc (.cells #[.int .i64 l, .int .i64 r, .int .i64 s] 33)).alloc (.cells #[.int .i64 0, .int .i64 0, .int .i64 0] 44)) w.heap.size l r s from (Three.new 33 w l r s).old _)
  have HZ := Lib.hid (show Three 44 ((w.alloc (.cells #[.int .i64 l, .int .i64 r, .int .i64 s] 33)).alloc (.cells #[.int .i64 0, .int .i64 0, .int .i64 0] 44)) (w.heap.size + 1) 0 0 0 from Three.newAt (by simp) 0 0 0)
  have HR := Lib.hid (fun w => rright_yes h w)
  clear h
  have hld := HT.out.load (P := Try.prog)
  go_enter Try.func31, Try.ntmps31
  go_wp2_with fail
  refine (HR.out _).mono ?_
  rintro e w2 ⟨rfl, hb⟩
  have HB2 := Lib.hid (below_on HB.out hb)
  have cc0 := (HT.out.keep hb).c0
  have cc2 := (HT.out.keep hb).c2
  obtain ⟨w3, hst, ht, hb3⟩ := (HZ.out.keep hb).store Try.prog 4 l s
  have hld3 := ht.load (P := Try.prog)
  have HB3 := Lib.hid (HB2.out.trans (hb3.mono (by omega)))
  clear hb hld ht hb3
  go_wp2
  refine bodyPost_ret (v := .tuple #[tri 4 l s, .int .i64 0]) ?_ rfl ⟨rfl, HB3.out⟩
  simp [results, Try.results31, go_sem, hld3]

end Go.Proofs.Yteonjdigcecceaa.MarkPkg
