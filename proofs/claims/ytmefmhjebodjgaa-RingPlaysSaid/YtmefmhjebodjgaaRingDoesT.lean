/-
  What the laws' 'does' of layer 10 does: Take.
-/
import Derived.Test.YtmefmhjebodjgaaRingInts
import Derived.Test.YtmefmhjebodjgaaRingSame
import Derived.Test.YtmefmhjebodjgaaRingDoes
import Derived.Deep.RegionHeld
namespace Go.Proofs.Ytmefmhjebodjgaa.RingLaw
open Go.RowKit Ring RingPkg
set_option maxRecDepth 4000

set_option maxHeartbeats 4000000 in
theorem does_take {a w : World} {gp gq : Nat} {size : Int} {al : All} (h : Pr a gp gq size al al w) (hl : al.length ≤ 100000) (_h0 : 1 ≤ size) (_h1 : size ≤ 256) (hfr : 0 ≤ size - al.length + tl al) (x1 : Int) (last : Bool) (k l s f : Int) (Ap : Option Addr) (np cp : Nat) (xs : List UInt8) (_hnp : np ≤ 1000) (_hby : Bytes w a.heap.size Ap np xs) :
    Calls Try.prog 17 #[ptr gp, ptr gq, .agg #[.int .i64 2, .int .i64 x1, .bool last, .int .i64 k, .int .i64 l, .int .i64 s, .slice Ap np cp, .int .i64 f]] w (Both a gp gq size al) := by
  have h0 := _h0
  have h1 := _h1
  have hnp := _hnp
  have hby := _hby
  have hb := (Below.refl w.heap.size w).alloc (Nat.le_refl _) (.cells #[.int .i64 2, .int .i64 x1, .bool last, .int .i64 k, .int .i64 l, .int .i64 s, .slice Ap np cp, .int .i64 f] 37)
  have H := Lib.hid (h.on hb)
  have HB := Lib.hid hb
  have hl2 : al.length ≤ 1000000 := by omega
  have HHQ := Lib.hid (Head_q H.out)
  have HBX : Hid ((w.alloc (.cells #[.int .i64 2, .int .i64 x1, .bool last, .int .i64 k, .int .i64 l, .int .i64 s, .slice Ap np cp, .int .i64 f] 37)).heap[w.heap.size]? = some (.cells #[.int .i64 2, .int .i64 x1, .bool last, .int .i64 k, .int .i64 l, .int .i64 s, .slice Ap np cp, .int .i64 f] 37 (0, 0))) := Lib.hid (heap_alloc_new w _)
  obtain ⟨P, Q, rfl, rfl, h3, h4, h5, h6, h7, h8⟩ := h
  have hbd : Below w.heap.size w (w.alloc (.cells #[.int .i64 2, .int .i64 x1, .bool last, .int .i64 k, .int .i64 l, .int .i64 s, .slice Ap np cp, .int .i64 f] 37)).drew := hb.drew
  have HTP := Lib.hid (Take_rg (h3.below hbd) hl2 x1)
  have HQ0 := Lib.hid (h4.below hbd)
  have HAP := Lib.hid h5
  have HSL : Hid (((sel (isQ 0) al).take x1.toNat).length ≤ 1000000) := Lib.hid (Nat.le_trans (List.length_take_le' _ _) (Nat.le_trans (sel_len _ _) hl2))
  obtain ⟨_, hs0, _⟩ := eight_cells HBX.out
  have HS0 : Hid ((w.alloc (.cells #[.int .i64 2, .int .i64 x1, .bool last, .int .i64 k, .int .i64 l, .int .i64 s, .slice Ap np cp, .int .i64 f] 37)).drew.cell? ⟨w.heap.size, 1, none⟩ = some (.int .i64 x1)) := Lib.hid hs0
  have HKB : Hid (∀ w3, Turn P.own P.own (w.alloc (.cells #[.int .i64 2, .int .i64 x1, .bool last, .int .i64 k, .int .i64 l, .int .i64 s, .slice Ap np cp, .int .i64 f] 37)).drew w3 → w3.cell? ⟨w.heap.size, 1, none⟩ = some (.int .i64 x1)) := Lib.hid (fun w3 ht => by
    rw [World.cell?_of_block (w := (w.alloc (.cells #[.int .i64 2, .int .i64 x1, .bool last, .int .i64 k, .int .i64 l, .int .i64 s, .slice Ap np cp, .int .i64 f] 37)).drew) (ht.block w.heap.size (by show w.heap.size < (w.alloc (.cells #[.int .i64 2, .int .i64 x1, .bool last, .int .i64 k, .int .i64 l, .int .i64 s, .slice Ap np cp, .int .i64 f] 37)).heap.size; simp) (fun ho => by have := h3.lt _ ho; omega))]
    exact HS0.out)
  have HKQ : Hid (∀ w3 w4, Turn P.own P.own (w.alloc (.cells #[.int .i64 2, .int .i64 x1, .bool last, .int .i64 k, .int .i64 l, .int .i64 s, .slice Ap np cp, .int .i64 f] 37)).drew w3 → Turn Q.own Q.own w3 w4 → w4.cell? ⟨w.heap.size, 1, none⟩ = some (.int .i64 x1)) := Lib.hid (fun w3 w4 ht ht2 => by
    rw [World.cell?_of_block (w := w3) (ht2.block w.heap.size (World.block_lt_of_cell? _ _ (HKB.out w3 ht)) (fun ho => by have := h4.lt _ ho; omega))]
    exact HKB.out w3 ht)
  have HK34 : Hid (∀ w3 w4 (v : Value) (zs : List Int), Turn P.own P.own (w.alloc (.cells #[.int .i64 2, .int .i64 x1, .bool last, .int .i64 k, .int .i64 l, .int .i64 s, .slice Ap np cp, .int .i64 f] 37)).drew w3 → Turn Q.own Q.own w3 w4 → OwnI w3 (w.alloc (.cells #[.int .i64 2, .int .i64 x1, .bool last, .int .i64 k, .int .i64 l, .int .i64 s, .slice Ap np cp, .int .i64 f] 37)).drew.heap.size 3 v zs → OwnI w4 (w.alloc (.cells #[.int .i64 2, .int .i64 x1, .bool last, .int .i64 k, .int .i64 l, .int .i64 s, .slice Ap np cp, .int .i64 f] 37)).drew.heap.size 3 v zs) := Lib.hid (fun w3 w4 v zs ht ht2 ho => ho.keep fun j hj => ht2.block j (ho.lt j hj) (fun hq => by have h9 := h4.lt j hq; have h10 := ho.block j hj; have h11 : w.heap.size < (w.alloc (.cells #[.int .i64 2, .int .i64 x1, .bool last, .int .i64 k, .int .i64 l, .int .i64 s, .slice Ap np cp, .int .i64 f] 37)).heap.size := (by simp); have h12 : (w.alloc (.cells #[.int .i64 2, .int .i64 x1, .bool last, .int .i64 k, .int .i64 l, .int .i64 s, .slice Ap np cp, .int .i64 f] 37)).drew.heap.size = (w.alloc (.cells #[.int .i64 2, .int .i64 x1, .bool last, .int .i64 k, .int .i64 l, .int .i64 s, .slice Ap np cp, .int .i64 f] 37)).heap.size := rfl; omega))
  have HFIN : Hid (∀ w3 w4 w5, Rg w3 P size (Ring.mark (out 1) ((sel (isQ 0) al).take x1.toNat) al) → Turn P.own P.own (w.alloc (.cells #[.int .i64 2, .int .i64 x1, .bool last, .int .i64 k, .int .i64 l, .int .i64 s, .slice Ap np cp, .int .i64 f] 37)).drew w3 → RingRef.Ref w4 Q size (Ring.mark (out 1) ((sel (isQ 0) al).take x1.toNat) al) → Turn Q.own Q.own w3 w4 → Below w4.heap.size w4 w5 → Pr a P.g Q.g size (Ring.mark (out 1) ((sel (isQ 0) al).take x1.toNat) al) (Ring.mark (out 1) ((sel (isQ 0) al).take x1.toNat) al) w5) := Lib.hid (fun w3 w4 w5 hr3 ht3 hr4 ht4 hb5 => by
    have hb8 := below_on h8 hbd h8.size
    have hb83 := below_turn hb8 ht3 h6 hb8.size
    exact (Pr.turnQ (a := a) rfl hr3 h5 h6 h7 hb83 rfl hr4 ht4).on hb5)
  clear h3 h4 h5 h6 h7 h8 hbd hs0
  clear hb hby _hby
  obtain ⟨m, hm⟩ : ∃ m, m = al.length := ⟨_, rfl⟩
  rw [← hm] at HHQ
  have HM := Lib.hid hm
  have hm2 : m ≤ 100000 := by omega
  clear hm
  have hway : last = false ∨ (last = true ∧ x1 < 0) ∨ (last = true ∧ ¬ x1 < 0 ∧ 1000 < x1) ∨ (last = true ∧ 0 ≤ x1 ∧ x1 ≤ 1000) := by
    cases last
    · exact .inl rfl
    · refine .inr ?_
      by_cases hx : x1 < 0
      · exact .inl ⟨rfl, hx⟩
      · by_cases hx2 : 1000 < x1
        · exact .inr (.inl ⟨rfl, hx, hx2⟩)
        · exact .inr (.inr ⟨rfl, by omega, by omega⟩)
  rcases hway with rfl | ⟨rfl, hx⟩ | ⟨rfl, hx, hx2⟩ | ⟨rfl, hx, hx2⟩
  · go_enter Try.func17, Try.ntmps17
    go_upto_region 11 with fail
    go_region_held (fun w' => w'.cell? ⟨w.heap.size, 1, none⟩ = some (.int .i64 x1)) (first | exact HS0.out | exact hs3 | exact hs4 | exact hs5) (first
      | (go_at_call 24; refine HTP.out.mono ?_; rintro e w3 ⟨u3, rfl, ho3, hr3, ht3⟩; obtain ⟨A3, m3, c3, rfl⟩ := ho3.form; have HO3 := Lib.hid ho3; have HR3 := Lib.hid hr3; have HT3 := Lib.hid ht3; have hs3 := HKB.out w3 ht3; have HQ3 := Lib.hid (HQ0.out.turn ht3 (fun b hb ho => HAP.out b ho hb)); clear ho3 hr3 ht3)
      | (go_at_call 35; refine (RingRef.Take_any HQ3.out hl2 x1).mono ?_; rintro e w4 ⟨u4, rfl, ho4, hr4, ht4⟩; obtain ⟨A4, m4, c4, rfl⟩ := ho4.form; have HO4 := Lib.hid ho4; have HR4 := Lib.hid hr4; have HT4 := Lib.hid ht4; have HO34 := Lib.hid (HK34.out w3 w4 _ _ HT3.out ht4 HO3.out); have hs4 := HKQ.out w3 w4 HT3.out ht4; have hm34 : m4 = m3 := HO4.out.len.symm.trans HO3.out.len; subst hm34; have HM4 : Hid (m4 ≤ 1000000) := Lib.hid (by rw [← HO4.out.len, nums_len]; exact HSL.out); clear ho4 hr4 ht4)
      | (go_at_call 34; refine (ints_same A3 A4 m4 c3 c4 _ _ _ w4 HO34.out HO4.out HM4.out).mono ?_; rintro e w5 ⟨rfl, hb5⟩; have HB5 := Lib.hid hb5; have hs5 := (hb5.cell (p := ⟨w.heap.size, 1, none⟩) (World.block_lt_of_cell? _ _ hs4)).trans hs4; clear hb5))
    all_goals
      go_wp2
      go_ret
      exact ⟨_, rfl, HFIN.out _ _ _ HR3.out HT3.out HR4.out HT4.out HB5.out, by rw [mark_len]; omega, by rw [mark_len, take_tl]; exact hfr⟩
  · go_enter Try.func17, Try.ntmps17
    go_upto_region 11 with fail
    go_region_held (fun w' => w'.cell? ⟨w.heap.size, 1, none⟩ = some (.int .i64 x1)) (first | exact HS0.out | exact hs3 | exact hs4 | exact hs5) (first
      | (go_at_call 24; refine HTP.out.mono ?_; rintro e w3 ⟨u3, rfl, ho3, hr3, ht3⟩; obtain ⟨A3, m3, c3, rfl⟩ := ho3.form; have HO3 := Lib.hid ho3; have HR3 := Lib.hid hr3; have HT3 := Lib.hid ht3; have hs3 := HKB.out w3 ht3; have HQ3 := Lib.hid (HQ0.out.turn ht3 (fun b hb ho => HAP.out b ho hb)); clear ho3 hr3 ht3)
      | (go_at_call 35; refine (RingRef.Take_any HQ3.out hl2 x1).mono ?_; rintro e w4 ⟨u4, rfl, ho4, hr4, ht4⟩; obtain ⟨A4, m4, c4, rfl⟩ := ho4.form; have HO4 := Lib.hid ho4; have HR4 := Lib.hid hr4; have HT4 := Lib.hid ht4; have HO34 := Lib.hid (HK34.out w3 w4 _ _ HT3.out ht4 HO3.out); have hs4 := HKQ.out w3 w4 HT3.out ht4; have hm34 : m4 = m3 := HO4.out.len.symm.trans HO3.out.len; subst hm34; have HM4 : Hid (m4 ≤ 1000000) := Lib.hid (by rw [← HO4.out.len, nums_len]; exact HSL.out); clear ho4 hr4 ht4)
      | (go_at_call 34; refine (ints_same A3 A4 m4 c3 c4 _ _ _ w4 HO34.out HO4.out HM4.out).mono ?_; rintro e w5 ⟨rfl, hb5⟩; have HB5 := Lib.hid hb5; have hs5 := (hb5.cell (p := ⟨w.heap.size, 1, none⟩) (World.block_lt_of_cell? _ _ hs4)).trans hs4; clear hb5))
    all_goals
      go_wp2
      go_ret
      exact ⟨_, rfl, HFIN.out _ _ _ HR3.out HT3.out HR4.out HT4.out HB5.out, by rw [mark_len]; omega, by rw [mark_len, take_tl]; exact hfr⟩
  · go_enter Try.func17, Try.ntmps17
    go_upto_region 11 with fail
    go_region_held (fun w' => w'.cell? ⟨w.heap.size, 1, none⟩ = some (.int .i64 x1)) (first | exact HS0.out | exact hs3 | exact hs4 | exact hs5) (first
      | (go_at_call 24; refine HTP.out.mono ?_; rintro e w3 ⟨u3, rfl, ho3, hr3, ht3⟩; obtain ⟨A3, m3, c3, rfl⟩ := ho3.form; have HO3 := Lib.hid ho3; have HR3 := Lib.hid hr3; have HT3 := Lib.hid ht3; have hs3 := HKB.out w3 ht3; have HQ3 := Lib.hid (HQ0.out.turn ht3 (fun b hb ho => HAP.out b ho hb)); clear ho3 hr3 ht3)
      | (go_at_call 35; refine (RingRef.Take_any HQ3.out hl2 x1).mono ?_; rintro e w4 ⟨u4, rfl, ho4, hr4, ht4⟩; obtain ⟨A4, m4, c4, rfl⟩ := ho4.form; have HO4 := Lib.hid ho4; have HR4 := Lib.hid hr4; have HT4 := Lib.hid ht4; have HO34 := Lib.hid (HK34.out w3 w4 _ _ HT3.out ht4 HO3.out); have hs4 := HKQ.out w3 w4 HT3.out ht4; have hm34 : m4 = m3 := HO4.out.len.symm.trans HO3.out.len; subst hm34; have HM4 : Hid (m4 ≤ 1000000) := Lib.hid (by rw [← HO4.out.len, nums_len]; exact HSL.out); clear ho4 hr4 ht4)
      | (go_at_call 34; refine (ints_same A3 A4 m4 c3 c4 _ _ _ w4 HO34.out HO4.out HM4.out).mono ?_; rintro e w5 ⟨rfl, hb5⟩; have HB5 := Lib.hid hb5; have hs5 := (hb5.cell (p := ⟨w.heap.size, 1, none⟩) (World.block_lt_of_cell? _ _ hs4)).trans hs4; clear hb5))
    all_goals
      go_wp2
      go_ret
      exact ⟨_, rfl, HFIN.out _ _ _ HR3.out HT3.out HR4.out HT4.out HB5.out, by rw [mark_len]; omega, by rw [mark_len, take_tl]; exact hfr⟩
  · obtain ⟨ps, hps⟩ : ∃ ps, (m : Int) - 1 - x1 = ps := ⟨_, rfl⟩
    go_enter Try.func17, Try.ntmps17
    go_wp2_with fail
    refine HHQ.out.mono ?_
    rintro e w2 ⟨rfl, hw⟩
    subst w2
    go_upto_region 11 with fail
    go_region_held (fun w' => w'.cell? ⟨w.heap.size, 1, none⟩ = some (.int .i64 x1)) (first | exact HS0.out | exact hs3 | exact hs4 | exact hs5) (first
      | (go_at_call 24; refine HTP.out.mono ?_; rintro e w3 ⟨u3, rfl, ho3, hr3, ht3⟩; obtain ⟨A3, m3, c3, rfl⟩ := ho3.form; have HO3 := Lib.hid ho3; have HR3 := Lib.hid hr3; have HT3 := Lib.hid ht3; have hs3 := HKB.out w3 ht3; have HQ3 := Lib.hid (HQ0.out.turn ht3 (fun b hb ho => HAP.out b ho hb)); clear ho3 hr3 ht3)
      | (go_at_call 35; refine (RingRef.Take_any HQ3.out hl2 x1).mono ?_; rintro e w4 ⟨u4, rfl, ho4, hr4, ht4⟩; obtain ⟨A4, m4, c4, rfl⟩ := ho4.form; have HO4 := Lib.hid ho4; have HR4 := Lib.hid hr4; have HT4 := Lib.hid ht4; have HO34 := Lib.hid (HK34.out w3 w4 _ _ HT3.out ht4 HO3.out); have hs4 := HKQ.out w3 w4 HT3.out ht4; have hm34 : m4 = m3 := HO4.out.len.symm.trans HO3.out.len; subst hm34; have HM4 : Hid (m4 ≤ 1000000) := Lib.hid (by rw [← HO4.out.len, nums_len]; exact HSL.out); clear ho4 hr4 ht4)
      | (go_at_call 34; refine (ints_same A3 A4 m4 c3 c4 _ _ _ w4 HO34.out HO4.out HM4.out).mono ?_; rintro e w5 ⟨rfl, hb5⟩; have HB5 := Lib.hid hb5; have hs5 := (hb5.cell (p := ⟨w.heap.size, 1, none⟩) (World.block_lt_of_cell? _ _ hs4)).trans hs4; clear hb5))
    all_goals
      go_wp2
      go_ret
      exact ⟨_, rfl, HFIN.out _ _ _ HR3.out HT3.out HR4.out HT4.out HB5.out, by rw [mark_len]; omega, by rw [mark_len, take_tl]; exact hfr⟩

end Go.Proofs.Ytmefmhjebodjgaa.RingLaw
