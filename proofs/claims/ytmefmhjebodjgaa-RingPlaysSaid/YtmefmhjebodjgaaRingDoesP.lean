/-
  What the laws' 'does' of layer 10 does: Put.
-/
import Derived.Test.YtmefmhjebodjgaaRingInts
import Derived.Test.YtmefmhjebodjgaaRingSame
import Derived.Test.YtmefmhjebodjgaaRingDoes
namespace Go.Proofs.Ytmefmhjebodjgaa.RingLaw
open Go.RowKit Ring RingPkg
set_option maxRecDepth 4000

set_option maxHeartbeats 4000000 in
theorem does_put0 {a w : World} {gp gq : Nat} {size : Int} {al : All} (h : Pr a gp gq size al al w) (hl : al.length ≤ 100000) (_h0 : 1 ≤ size) (_h1 : size ≤ 256) (hfr : 0 ≤ size - al.length + tl al) (x1 : Int) (last : Bool) (k l s f : Int) (Ap : Option Addr) (np cp : Nat) (xs : List UInt8) (_hnp : np ≤ 1000) (_hby : Bytes w a.heap.size Ap np xs) :
    Calls Try.prog 17 #[ptr gp, ptr gq, .agg #[.int .i64 0, .int .i64 x1, .bool last, .int .i64 k, .int .i64 l, .int .i64 s, .slice Ap np cp, .int .i64 f]] w (Both a gp gq size al) := by
  have h0 := _h0
  have h1 := _h1
  have hnp := _hnp
  have hby := _hby
  have hb := (Below.refl w.heap.size w).alloc (Nat.le_refl _) (.cells #[.int .i64 0, .int .i64 x1, .bool last, .int .i64 k, .int .i64 l, .int .i64 s, .slice Ap np cp, .int .i64 f] 37)
  have H := Lib.hid (h.on hb)
  have HB := Lib.hid hb
  have hl2 : al.length ≤ 1000000 := by omega
  have HHQ := Lib.hid (Head_q H.out)
  have HBX : Hid ((w.alloc (.cells #[.int .i64 0, .int .i64 x1, .bool last, .int .i64 k, .int .i64 l, .int .i64 s, .slice Ap np cp, .int .i64 f] 37)).heap[w.heap.size]? = some (.cells #[.int .i64 0, .int .i64 x1, .bool last, .int .i64 k, .int .i64 l, .int .i64 s, .slice Ap np cp, .int .i64 f] 37 (0, 0))) := Lib.hid (heap_alloc_new w _)
  have HBY : Hid (Bytes (w.alloc (.cells #[.int .i64 0, .int .i64 x1, .bool last, .int .i64 k, .int .i64 l, .int .i64 s, .slice Ap np cp, .int .i64 f] 37)) a.heap.size Ap np xs) := Lib.hid (bytes_keep hby (hb.mono h.below.size))
  have HPP : Hid (¬ size - al.length + tl al = 0 → Calls Try.prog 22 #[ptr gp, slotV ⟨k, l, s, xs, f⟩ (.slice Ap np cp)] (w.alloc (.cells #[.int .i64 0, .int .i64 x1, .bool last, .int .i64 k, .int .i64 l, .int .i64 s, .slice Ap np cp, .int .i64 f] 37)) fun e w' => e = .returned (.tuple #[.int .i64 al.length, .int .i64 0]) ∧ Pr a gp gq size (al ++ [(⟨k, l, s, xs, f⟩, 0)]) al w' ∧ Below a.heap.size (w.alloc (.cells #[.int .i64 0, .int .i64 x1, .bool last, .int .i64 k, .int .i64 l, .int .i64 s, .slice Ap np cp, .int .i64 f] 37)) w' ∧ w'.heap[w.heap.size]? = some (.cells #[.int .i64 0, .int .i64 x1, .bool last, .int .i64 k, .int .i64 l, .int .i64 s, .slice Ap np cp, .int .i64 f] 37 (0, 0))) := Lib.hid (fun hf => by
    obtain ⟨P, Q, rfl, g2, h3, h4, h5, h6, h7, h8⟩ := h
    refine (Put_rg (h3.below hb) hl2 (by omega) (by omega) hf ⟨k, l, s, xs, f⟩ Ap np cp (by omega) (bytes_more HBY.out (Nat.le_trans h8.size hb.size))).mono ?_
    rintro e w' ⟨rfl, P', hg, hr, ht⟩
    have hb8 := below_on h8 hb h8.size
    refine ⟨rfl, Pr.turnP g2 (h4.below hb) h5 h6 h7 hb8 hg hr ht, ht.below h6 hb8.size, ?_⟩
    rw [ht.block w.heap.size (by simp) (fun ho => by have := h3.lt _ ho; omega)]
    exact HBX.out)
  clear h hb hby _hby
  obtain ⟨m, hm⟩ : ∃ m, m = al.length := ⟨_, rfl⟩
  rw [← hm] at HHQ
  have HM := Lib.hid hm
  have hm2 : m ≤ 100000 := by omega
  clear hm
  have hway : last = false ∨ (last = true ∧ x1 < 0) ∨ (last = true ∧ ¬ x1 < 0 ∧ 1000 < x1) ∨ (last = true ∧ 0 ≤ x1 ∧ x1 ≤ 1000) := by
    cases last
    · exact .inl rfl
    · refine .inr ?_
      by_cases hx : x1 < 0
      · exact .inl ⟨rfl, hx⟩
      · by_cases hx2 : 1000 < x1
        · exact .inr (.inl ⟨rfl, hx, hx2⟩)
        · exact .inr (.inr ⟨rfl, by omega, by omega⟩)
  rcases hway with rfl | ⟨rfl, hx⟩ | ⟨rfl, hx, hx2⟩ | ⟨rfl, hx, hx2⟩
  · by_cases hf : size - al.length + tl al = 0
    · have HF := Lib.hid hf
      clear hf
      go_enter Try.func17, Try.ntmps17
      go_wp2_with fail
      refine (Put_full_p H.out hl2 (by omega) (by omega) HF.out ⟨k, l, s, xs, f⟩ (.slice Ap np cp) ⟨_, _, _, rfl⟩).mono ?_
      rintro e w3 ⟨rfl, hb3, hh⟩
      replace H := Lib.hid hh
      obtain ⟨_, _, _, d3, d4, d5, d6, d7⟩ := eight_cells ((hb3.block w.heap.size (by simp)).trans HBX.out)
      clear hh hb3
      go_wp2_with fail
      refine (Put_full_q H.out hl2 (by omega) (by omega) (by have := HF.out; omega) ⟨k, l, s, xs, f⟩ (.slice Ap np cp) ⟨_, _, _, rfl⟩).mono ?_
      rintro e w4 ⟨rfl, hh⟩
      replace H := Lib.hid hh
      clear hh
      go_wp2
      go_ret
      exact ⟨al, rfl, H.out, by omega, hfr⟩
    go_enter Try.func17, Try.ntmps17
    go_wp2_with fail
    refine (HPP.out hf).mono ?_
    rintro e w3 ⟨rfl, hE⟩
    obtain ⟨hh, hb3, hbx3⟩ := hE
    replace H := Lib.hid hh
    obtain ⟨_, _, _, d3, d4, d5, d6, d7⟩ := eight_cells hbx3
    have HBY3 := Lib.hid (bytes_keep HBY.out hb3)
    clear hh hb3 hbx3
    go_wp2_with fail
    refine (Put_q H.out hl2 (by omega) (by omega) (by omega) ⟨k, l, s, xs, f⟩ Ap np cp (by omega) (bytes_more HBY3.out H.out.below.size)).mono ?_
    rintro e w4 ⟨rfl, hh⟩
    replace H := Lib.hid hh
    clear hh
    go_wp2
    go_ret
    exact ⟨al ++ [(⟨k, l, s, xs, f⟩, 0)], rfl, H.out, by simp, free_put hf hfr _⟩
  · by_cases hf : size - al.length + tl al = 0
    · have HF := Lib.hid hf
      clear hf
      go_enter Try.func17, Try.ntmps17
      go_wp2_with fail
      refine (Put_full_p H.out hl2 (by omega) (by omega) HF.out ⟨k, l, s, xs, f⟩ (.slice Ap np cp) ⟨_, _, _, rfl⟩).mono ?_
      rintro e w3 ⟨rfl, hb3, hh⟩
      replace H := Lib.hid hh
      obtain ⟨_, _, _, d3, d4, d5, d6, d7⟩ := eight_cells ((hb3.block w.heap.size (by simp)).trans HBX.out)
      clear hh hb3
      go_wp2_with fail
      refine (Put_full_q H.out hl2 (by omega) (by omega) (by have := HF.out; omega) ⟨k, l, s, xs, f⟩ (.slice Ap np cp) ⟨_, _, _, rfl⟩).mono ?_
      rintro e w4 ⟨rfl, hh⟩
      replace H := Lib.hid hh
      clear hh
      go_wp2
      go_ret
      exact ⟨al, rfl, H.out, by omega, hfr⟩
    go_enter Try.func17, Try.ntmps17
    go_wp2_with fail
    refine (HPP.out hf).mono ?_
    rintro e w3 ⟨rfl, hE⟩
    obtain ⟨hh, hb3, hbx3⟩ := hE
    replace H := Lib.hid hh
    obtain ⟨_, _, _, d3, d4, d5, d6, d7⟩ := eight_cells hbx3
    have HBY3 := Lib.hid (bytes_keep HBY.out hb3)
    clear hh hb3 hbx3
    go_wp2_with fail
    refine (Put_q H.out hl2 (by omega) (by omega) (by omega) ⟨k, l, s, xs, f⟩ Ap np cp (by omega) (bytes_more HBY3.out H.out.below.size)).mono ?_
    rintro e w4 ⟨rfl, hh⟩
    replace H := Lib.hid hh
    clear hh
    go_wp2
    go_ret
    exact ⟨al ++ [(⟨k, l, s, xs, f⟩, 0)], rfl, H.out, by simp, free_put hf hfr _⟩
  · by_cases hf : size - al.length + tl al = 0
    · have HF := Lib.hid hf
      clear hf
      go_enter Try.func17, Try.ntmps17
      go_wp2_with fail
      refine (Put_full_p H.out hl2 (by omega) (by omega) HF.out ⟨k, l, s, xs, f⟩ (.slice Ap np cp) ⟨_, _, _, rfl⟩).mono ?_
      rintro e w3 ⟨rfl, hb3, hh⟩
      replace H := Lib.hid hh
      obtain ⟨_, _, _, d3, d4, d5, d6, d7⟩ := eight_cells ((hb3.block w.heap.size (by simp)).trans HBX.out)
      clear hh hb3
      go_wp2_with fail
      refine (Put_full_q H.out hl2 (by omega) (by omega) (by have := HF.out; omega) ⟨k, l, s, xs, f⟩ (.slice Ap np cp) ⟨_, _, _, rfl⟩).mono ?_
      rintro e w4 ⟨rfl, hh⟩
      replace H := Lib.hid hh
      clear hh
      go_wp2
      go_ret
      exact ⟨al, rfl, H.out, by omega, hfr⟩
    go_enter Try.func17, Try.ntmps17
    go_wp2_with fail
    refine (HPP.out hf).mono ?_
    rintro e w3 ⟨rfl, hE⟩
    obtain ⟨hh, hb3, hbx3⟩ := hE
    replace H := Lib.hid hh
    obtain ⟨_, _, _, d3, d4, d5, d6, d7⟩ := eight_cells hbx3
    have HBY3 := Lib.hid (bytes_keep HBY.out hb3)
    clear hh hb3 hbx3
    go_wp2_with fail
    refine (Put_q H.out hl2 (by omega) (by omega) (by omega) ⟨k, l, s, xs, f⟩ Ap np cp (by omega) (bytes_more HBY3.out H.out.below.size)).mono ?_
    rintro e w4 ⟨rfl, hh⟩
    replace H := Lib.hid hh
    clear hh
    go_wp2
    go_ret
    exact ⟨al ++ [(⟨k, l, s, xs, f⟩, 0)], rfl, H.out, by simp, free_put hf hfr _⟩
  · obtain ⟨ps, hps⟩ : ∃ ps, (m : Int) - 1 - x1 = ps := ⟨_, rfl⟩
    by_cases hf : size - al.length + tl al = 0
    · have HF := Lib.hid hf
      clear hf
      go_enter Try.func17, Try.ntmps17
      go_wp2_with fail
      refine HHQ.out.mono ?_
      rintro e w2 ⟨rfl, hw⟩
      subst w2
      go_wp2_with fail
      refine (Put_full_p H.out hl2 (by omega) (by omega) HF.out ⟨k, l, s, xs, f⟩ (.slice Ap np cp) ⟨_, _, _, rfl⟩).mono ?_
      rintro e w3 ⟨rfl, hb3, hh⟩
      replace H := Lib.hid hh
      obtain ⟨_, _, _, d3, d4, d5, d6, d7⟩ := eight_cells ((hb3.block w.heap.size (by simp)).trans HBX.out)
      clear hh hb3
      go_wp2_with fail
      refine (Put_full_q H.out hl2 (by omega) (by omega) (by have := HF.out; omega) ⟨k, l, s, xs, f⟩ (.slice Ap np cp) ⟨_, _, _, rfl⟩).mono ?_
      rintro e w4 ⟨rfl, hh⟩
      replace H := Lib.hid hh
      clear hh
      go_wp2
      go_ret
      exact ⟨al, rfl, H.out, by omega, hfr⟩
    go_enter Try.func17, Try.ntmps17
    go_wp2_with fail
    refine HHQ.out.mono ?_
    rintro e w2 ⟨rfl, hw⟩
    subst w2
    go_wp2_with fail
    refine (HPP.out hf).mono ?_
    rintro e w3 ⟨rfl, hE⟩
    obtain ⟨hh, hb3, hbx3⟩ := hE
    replace H := Lib.hid hh
    obtain ⟨_, _, _, d3, d4, d5, d6, d7⟩ := eight_cells hbx3
    have HBY3 := Lib.hid (bytes_keep HBY.out hb3)
    clear hh hb3 hbx3
    go_wp2_with fail
    refine (Put_q H.out hl2 (by omega) (by omega) (by omega) ⟨k, l, s, xs, f⟩ Ap np cp (by omega) (bytes_more HBY3.out H.out.below.size)).mono ?_
    rintro e w4 ⟨rfl, hh⟩
    replace H := Lib.hid hh
    clear hh
    go_wp2
    go_ret
    exact ⟨al ++ [(⟨k, l, s, xs, f⟩, 0)], rfl, H.out, by simp, free_put hf hfr _⟩

set_option maxHeartbeats 4000000 in
theorem does_put1 {a w : World} {gp gq : Nat} {size : Int} {al : All} (h : Pr a gp gq size al al w) (hl : al.length ≤ 100000) (_h0 : 1 ≤ size) (_h1 : size ≤ 256) (hfr : 0 ≤ size - al.length + tl al) (x1 : Int) (last : Bool) (k l s f : Int) (Ap : Option Addr) (np cp : Nat) (xs : List UInt8) (_hnp : np ≤ 1000) (_hby : Bytes w a.heap.size Ap np xs) :
    Calls Try.prog 17 #[ptr gp, ptr gq, .agg #[.int .i64 1, .int .i64 x1, .bool last, .int .i64 k, .int .i64 l, .int .i64 s, .slice Ap np cp, .int .i64 f]] w (Both a gp gq size al) := by
  have h0 := _h0
  have h1 := _h1
  have hnp := _hnp
  have hby := _hby
  have hb := (Below.refl w.heap.size w).alloc (Nat.le_refl _) (.cells #[.int .i64 1, .int .i64 x1, .bool last, .int .i64 k, .int .i64 l, .int .i64 s, .slice Ap np cp, .int .i64 f] 37)
  have H := Lib.hid (h.on hb)
  have HB := Lib.hid hb
  have hl2 : al.length ≤ 1000000 := by omega
  have HHQ := Lib.hid (Head_q H.out)
  have HBX : Hid ((w.alloc (.cells #[.int .i64 1, .int .i64 x1, .bool last, .int .i64 k, .int .i64 l, .int .i64 s, .slice Ap np cp, .int .i64 f] 37)).heap[w.heap.size]? = some (.cells #[.int .i64 1, .int .i64 x1, .bool last, .int .i64 k, .int .i64 l, .int .i64 s, .slice Ap np cp, .int .i64 f] 37 (0, 0))) := Lib.hid (heap_alloc_new w _)
  have HBY : Hid (Bytes (w.alloc (.cells #[.int .i64 1, .int .i64 x1, .bool last, .int .i64 k, .int .i64 l, .int .i64 s, .slice Ap np cp, .int .i64 f] 37)) a.heap.size Ap np xs) := Lib.hid (bytes_keep hby (hb.mono h.below.size))
  have HPP : Hid (¬ size - al.length + tl al = 0 → Calls Try.prog 22 #[ptr gp, slotV ⟨k, l, s, xs, f⟩ (.slice Ap np cp)] (w.alloc (.cells #[.int .i64 1, .int .i64 x1, .bool last, .int .i64 k, .int .i64 l, .int .i64 s, .slice Ap np cp, .int .i64 f] 37)) fun e w' => e = .returned (.tuple #[.int .i64 al.length, .int .i64 0]) ∧ Pr a gp gq size (al ++ [(⟨k, l, s, xs, f⟩, 0)]) al w' ∧ Below a.heap.size (w.alloc (.cells #[.int .i64 1, .int .i64 x1, .bool last, .int .i64 k, .int .i64 l, .int .i64 s, .slice Ap np cp, .int .i64 f] 37)) w' ∧ w'.heap[w.heap.size]? = some (.cells #[.int .i64 1, .int .i64 x1, .bool last, .int .i64 k, .int .i64 l, .int .i64 s, .slice Ap np cp, .int .i64 f] 37 (0, 0))) := Lib.hid (fun hf => by
    obtain ⟨P, Q, rfl, g2, h3, h4, h5, h6, h7, h8⟩ := h
    refine (Put_rg (h3.below hb) hl2 (by omega) (by omega) hf ⟨k, l, s, xs, f⟩ Ap np cp (by omega) (bytes_more HBY.out (Nat.le_trans h8.size hb.size))).mono ?_
    rintro e w' ⟨rfl, P', hg, hr, ht⟩
    have hb8 := below_on h8 hb h8.size
    refine ⟨rfl, Pr.turnP g2 (h4.below hb) h5 h6 h7 hb8 hg hr ht, ht.below h6 hb8.size, ?_⟩
    rw [ht.block w.heap.size (by simp) (fun ho => by have := h3.lt _ ho; omega)]
    exact HBX.out)
  clear h hb hby _hby
  obtain ⟨m, hm⟩ : ∃ m, m = al.length := ⟨_, rfl⟩
  rw [← hm] at HHQ
  have HM := Lib.hid hm
  have hm2 : m ≤ 100000 := by omega
  clear hm
  have hway : last = false ∨ (last = true ∧ x1 < 0) ∨ (last = true ∧ ¬ x1 < 0 ∧ 1000 < x1) ∨ (last = true ∧ 0 ≤ x1 ∧ x1 ≤ 1000) := by
    cases last
    · exact .inl rfl
    · refine .inr ?_
      by_cases hx : x1 < 0
      · exact .inl ⟨rfl, hx⟩
      · by_cases hx2 : 1000 < x1
        · exact .inr (.inl ⟨rfl, hx, hx2⟩)
        · exact .inr (.inr ⟨rfl, by omega, by omega⟩)
  rcases hway with rfl | ⟨rfl, hx⟩ | ⟨rfl, hx, hx2⟩ | ⟨rfl, hx, hx2⟩
  · by_cases hf : size - al.length + tl al = 0
    · have HF := Lib.hid hf
      clear hf
      go_enter Try.func17, Try.ntmps17
      go_wp2_with fail
      refine (Put_full_p H.out hl2 (by omega) (by omega) HF.out ⟨k, l, s, xs, f⟩ (.slice Ap np cp) ⟨_, _, _, rfl⟩).mono ?_
      rintro e w3 ⟨rfl, hb3, hh⟩
      replace H := Lib.hid hh
      obtain ⟨_, _, _, d3, d4, d5, d6, d7⟩ := eight_cells ((hb3.block w.heap.size (by simp)).trans HBX.out)
      clear hh hb3
      go_wp2_with fail
      refine (Put_full_q H.out hl2 (by omega) (by omega) (by have := HF.out; omega) ⟨k, l, s, xs, f⟩ (.slice Ap np cp) ⟨_, _, _, rfl⟩).mono ?_
      rintro e w4 ⟨rfl, hh⟩
      replace H := Lib.hid hh
      clear hh
      go_wp2
      go_ret
      exact ⟨al, rfl, H.out, by omega, hfr⟩
    go_enter Try.func17, Try.ntmps17
    go_wp2_with fail
    refine (HPP.out hf).mono ?_
    rintro e w3 ⟨rfl, hE⟩
    obtain ⟨hh, hb3, hbx3⟩ := hE
    replace H := Lib.hid hh
    obtain ⟨_, _, _, d3, d4, d5, d6, d7⟩ := eight_cells hbx3
    have HBY3 := Lib.hid (bytes_keep HBY.out hb3)
    clear hh hb3 hbx3
    go_wp2_with fail
    refine (Put_q H.out hl2 (by omega) (by omega) (by omega) ⟨k, l, s, xs, f⟩ Ap np cp (by omega) (bytes_more HBY3.out H.out.below.size)).mono ?_
    rintro e w4 ⟨rfl, hh⟩
    replace H := Lib.hid hh
    clear hh
    go_wp2
    go_ret
    exact ⟨al ++ [(⟨k, l, s, xs, f⟩, 0)], rfl, H.out, by simp, free_put hf hfr _⟩
  · by_cases hf : size - al.length + tl al = 0
    · have HF := Lib.hid hf
      clear hf
      go_enter Try.func17, Try.ntmps17
      go_wp2_with fail
      refine (Put_full_p H.out hl2 (by omega) (by omega) HF.out ⟨k, l, s, xs, f⟩ (.slice Ap np cp) ⟨_, _, _, rfl⟩).mono ?_
      rintro e w3 ⟨rfl, hb3, hh⟩
      replace H := Lib.hid hh
      obtain ⟨_, _, _, d3, d4, d5, d6, d7⟩ := eight_cells ((hb3.block w.heap.size (by simp)).trans HBX.out)
      clear hh hb3
      go_wp2_with fail
      refine (Put_full_q H.out hl2 (by omega) (by omega) (by have := HF.out; omega) ⟨k, l, s, xs, f⟩ (.slice Ap np cp) ⟨_, _, _, rfl⟩).mono ?_
      rintro e w4 ⟨rfl, hh⟩
      replace H := Lib.hid hh
      clear hh
      go_wp2
      go_ret
      exact ⟨al, rfl, H.out, by omega, hfr⟩
    go_enter Try.func17, Try.ntmps17
    go_wp2_with fail
    refine (HPP.out hf).mono ?_
    rintro e w3 ⟨rfl, hE⟩
    obtain ⟨hh, hb3, hbx3⟩ := hE
    replace H := Lib.hid hh
    obtain ⟨_, _, _, d3, d4, d5, d6, d7⟩ := eight_cells hbx3
    have HBY3 := Lib.hid (bytes_keep HBY.out hb3)
    clear hh hb3 hbx3
    go_wp2_with fail
    refine (Put_q H.out hl2 (by omega) (by omega) (by omega) ⟨k, l, s, xs, f⟩ Ap np cp (by omega) (bytes_more HBY3.out H.out.below.size)).mono ?_
    rintro e w4 ⟨rfl, hh⟩
    replace H := Lib.hid hh
    clear hh
    go_wp2
    go_ret
    exact ⟨al ++ [(⟨k, l, s, xs, f⟩, 0)], rfl, H.out, by simp, free_put hf hfr _⟩
  · by_cases hf : size - al.length + tl al = 0
    · have HF := Lib.hid hf
      clear hf
      go_enter Try.func17, Try.ntmps17
      go_wp2_with fail
      refine (Put_full_p H.out hl2 (by omega) (by omega) HF.out ⟨k, l, s, xs, f⟩ (.slice Ap np cp) ⟨_, _, _, rfl⟩).mono ?_
      rintro e w3 ⟨rfl, hb3, hh⟩
      replace H := Lib.hid hh
      obtain ⟨_, _, _, d3, d4, d5, d6, d7⟩ := eight_cells ((hb3.block w.heap.size (by simp)).trans HBX.out)
      clear hh hb3
      go_wp2_with fail
      refine (Put_full_q H.out hl2 (by omega) (by omega) (by have := HF.out; omega) ⟨k, l, s, xs, f⟩ (.slice Ap np cp) ⟨_, _, _, rfl⟩).mono ?_
      rintro e w4 ⟨rfl, hh⟩
      replace H := Lib.hid hh
      clear hh
      go_wp2
      go_ret
      exact ⟨al, rfl, H.out, by omega, hfr⟩
    go_enter Try.func17, Try.ntmps17
    go_wp2_with fail
    refine (HPP.out hf).mono ?_
    rintro e w3 ⟨rfl, hE⟩
    obtain ⟨hh, hb3, hbx3⟩ := hE
    replace H := Lib.hid hh
    obtain ⟨_, _, _, d3, d4, d5, d6, d7⟩ := eight_cells hbx3
    have HBY3 := Lib.hid (bytes_keep HBY.out hb3)
    clear hh hb3 hbx3
    go_wp2_with fail
    refine (Put_q H.out hl2 (by omega) (by omega) (by omega) ⟨k, l, s, xs, f⟩ Ap np cp (by omega) (bytes_more HBY3.out H.out.below.size)).mono ?_
    rintro e w4 ⟨rfl, hh⟩
    replace H := Lib.hid hh
    clear hh
    go_wp2
    go_ret
    exact ⟨al ++ [(⟨k, l, s, xs, f⟩, 0)], rfl, H.out, by simp, free_put hf hfr _⟩
  · obtain ⟨ps, hps⟩ : ∃ ps, (m : Int) - 1 - x1 = ps := ⟨_, rfl⟩
    by_cases hf : size - al.length + tl al = 0
    · have HF := Lib.hid hf
      clear hf
      go_enter Try.func17, Try.ntmps17
      go_wp2_with fail
      refine HHQ.out.mono ?_
      rintro e w2 ⟨rfl, hw⟩
      subst w2
      go_wp2_with fail
      refine (Put_full_p H.out hl2 (by omega) (by omega) HF.out ⟨k, l, s, xs, f⟩ (.slice Ap np cp) ⟨_, _, _, rfl⟩).mono ?_
      rintro e w3 ⟨rfl, hb3, hh⟩
      replace H := Lib.hid hh
      obtain ⟨_, _, _, d3, d4, d5, d6, d7⟩ := eight_cells ((hb3.block w.heap.size (by simp)).trans HBX.out)
      clear hh hb3
      go_wp2_with fail
      refine (Put_full_q H.out hl2 (by omega) (by omega) (by have := HF.out; omega) ⟨k, l, s, xs, f⟩ (.slice Ap np cp) ⟨_, _, _, rfl⟩).mono ?_
      rintro e w4 ⟨rfl, hh⟩
      replace H := Lib.hid hh
      clear hh
      go_wp2
      go_ret
      exact ⟨al, rfl, H.out, by omega, hfr⟩
    go_enter Try.func17, Try.ntmps17
    go_wp2_with fail
    refine HHQ.out.mono ?_
    rintro e w2 ⟨rfl, hw⟩
    subst w2
    go_wp2_with fail
    refine (HPP.out hf).mono ?_
    rintro e w3 ⟨rfl, hE⟩
    obtain ⟨hh, hb3, hbx3⟩ := hE
    replace H := Lib.hid hh
    obtain ⟨_, _, _, d3, d4, d5, d6, d7⟩ := eight_cells hbx3
    have HBY3 := Lib.hid (bytes_keep HBY.out hb3)
    clear hh hb3 hbx3
    go_wp2_with fail
    refine (Put_q H.out hl2 (by omega) (by omega) (by omega) ⟨k, l, s, xs, f⟩ Ap np cp (by omega) (bytes_more HBY3.out H.out.below.size)).mono ?_
    rintro e w4 ⟨rfl, hh⟩
    replace H := Lib.hid hh
    clear hh
    go_wp2
    go_ret
    exact ⟨al ++ [(⟨k, l, s, xs, f⟩, 0)], rfl, H.out, by simp, free_put hf hfr _⟩

end Go.Proofs.Ytmefmhjebodjgaa.RingLaw
