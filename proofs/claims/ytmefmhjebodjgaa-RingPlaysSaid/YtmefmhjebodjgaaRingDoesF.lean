/-
  What the laws' 'does' of layer 10 does: Find, Get.
-/
import Derived.Test.YtmefmhjebodjgaaRingInts
import Derived.Test.YtmefmhjebodjgaaRingSame
import Derived.Test.YtmefmhjebodjgaaRingDoes
namespace Go.Proofs.Ytmefmhjebodjgaa.RingLaw
open Go.RowKit Ring RingPkg
set_option maxRecDepth 4000

set_option maxHeartbeats 4000000 in
theorem does_find {a w : World} {gp gq : Nat} {size : Int} {al : All} (h : Pr a gp gq size al al w) (hl : al.length ≤ 100000) (_h0 : 1 ≤ size) (_h1 : size ≤ 256) (hfr : 0 ≤ size - al.length + tl al) (x1 : Int) (last : Bool) (k l s f : Int) (Ap : Option Addr) (np cp : Nat) (xs : List UInt8) (_hnp : np ≤ 1000) (_hby : Bytes w a.heap.size Ap np xs) :
    Calls Try.prog 17 #[ptr gp, ptr gq, .agg #[.int .i64 6, .int .i64 x1, .bool last, .int .i64 k, .int .i64 l, .int .i64 s, .slice Ap np cp, .int .i64 f]] w (Both a gp gq size al) := by
  have h0 := _h0
  have h1 := _h1
  have hnp := _hnp
  have hby := _hby
  have hb := (Below.refl w.heap.size w).alloc (Nat.le_refl _) (.cells #[.int .i64 6, .int .i64 x1, .bool last, .int .i64 k, .int .i64 l, .int .i64 s, .slice Ap np cp, .int .i64 f] 37)
  have H := Lib.hid (h.on hb)
  have HB := Lib.hid hb
  have hl2 : al.length ≤ 1000000 := by omega
  have HHQ := Lib.hid (Head_q H.out)
  have HBX : Hid ((w.alloc (.cells #[.int .i64 6, .int .i64 x1, .bool last, .int .i64 k, .int .i64 l, .int .i64 s, .slice Ap np cp, .int .i64 f] 37)).heap[w.heap.size]? = some (.cells #[.int .i64 6, .int .i64 x1, .bool last, .int .i64 k, .int .i64 l, .int .i64 s, .slice Ap np cp, .int .i64 f] 37 (0, 0))) := Lib.hid (heap_alloc_new w _)
  clear h hb hby _hby
  obtain ⟨m, hm⟩ : ∃ m, m = al.length := ⟨_, rfl⟩
  rw [← hm] at HHQ
  have HM := Lib.hid hm
  have hm2 : m ≤ 100000 := by omega
  clear hm
  have hway : last = false ∨ (last = true ∧ x1 < 0) ∨ (last = true ∧ ¬ x1 < 0 ∧ 1000 < x1) ∨ (last = true ∧ 0 ≤ x1 ∧ x1 ≤ 1000) := by
    cases last
    · exact .inl rfl
    · refine .inr ?_
      by_cases hx : x1 < 0
      · exact .inl ⟨rfl, hx⟩
      · by_cases hx2 : 1000 < x1
        · exact .inr (.inl ⟨rfl, hx, hx2⟩)
        · exact .inr (.inr ⟨rfl, by omega, by omega⟩)
  rcases hway with rfl | ⟨rfl, hx⟩ | ⟨rfl, hx, hx2⟩ | ⟨rfl, hx, hx2⟩
  · cases hF : find al x1 with
    | none =>
      have HF := Lib.hid hF
      clear hF
      go_enter Try.func17, Try.ntmps17
      go_wp2_with fail
      refine (Find_p H.out hl2 x1).mono ?_
      rintro e w3 ⟨he, hb3, hh⟩
      rw [HF.out] at he
      obtain rfl := (show e = .returned (.tuple #[.int .i64 0, .bool false]) from he)
      replace H := Lib.hid hh
      obtain ⟨_, c1, _⟩ := eight_cells ((hb3.block w.heap.size (by simp)).trans HBX.out)
      clear hh he hb3
      go_wp2_with fail
      refine (Find_q H.out hl2 x1).mono ?_
      rintro e w4 ⟨he, hw⟩
      subst w4
      rw [HF.out] at he
      obtain rfl := (show e = .returned (.tuple #[.int .i64 0, .bool false]) from he)
      clear he
      go_wp2
      go_ret
      exact ⟨al, rfl, H.out, by omega, hfr⟩
    | some i =>
      have HF := Lib.hid hF
      clear hF
      go_enter Try.func17, Try.ntmps17
      go_wp2_with fail
      refine (Find_p H.out hl2 x1).mono ?_
      rintro e w3 ⟨he, hb3, hh⟩
      rw [HF.out] at he
      obtain rfl := (show e = .returned (.tuple #[.int .i64 i, .bool true]) from he)
      replace H := Lib.hid hh
      obtain ⟨_, c1, _⟩ := eight_cells ((hb3.block w.heap.size (by simp)).trans HBX.out)
      clear hh he hb3
      go_wp2_with fail
      refine (Find_q H.out hl2 x1).mono ?_
      rintro e w4 ⟨he, hw⟩
      subst w4
      rw [HF.out] at he
      obtain rfl := (show e = .returned (.tuple #[.int .i64 i, .bool true]) from he)
      clear he
      go_wp2
      go_ret
      exact ⟨al, rfl, H.out, by omega, hfr⟩
  · cases hF : find al x1 with
    | none =>
      have HF := Lib.hid hF
      clear hF
      go_enter Try.func17, Try.ntmps17
      go_wp2_with fail
      refine (Find_p H.out hl2 x1).mono ?_
      rintro e w3 ⟨he, hb3, hh⟩
      rw [HF.out] at he
      obtain rfl := (show e = .returned (.tuple #[.int .i64 0, .bool false]) from he)
      replace H := Lib.hid hh
      obtain ⟨_, c1, _⟩ := eight_cells ((hb3.block w.heap.size (by simp)).trans HBX.out)
      clear hh he hb3
      go_wp2_with fail
      refine (Find_q H.out hl2 x1).mono ?_
      rintro e w4 ⟨he, hw⟩
      subst w4
      rw [HF.out] at he
      obtain rfl := (show e = .returned (.tuple #[.int .i64 0, .bool false]) from he)
      clear he
      go_wp2
      go_ret
      exact ⟨al, rfl, H.out, by omega, hfr⟩
    | some i =>
      have HF := Lib.hid hF
      clear hF
      go_enter Try.func17, Try.ntmps17
      go_wp2_with fail
      refine (Find_p H.out hl2 x1).mono ?_
      rintro e w3 ⟨he, hb3, hh⟩
      rw [HF.out] at he
      obtain rfl := (show e = .returned (.tuple #[.int .i64 i, .bool true]) from he)
      replace H := Lib.hid hh
      obtain ⟨_, c1, _⟩ := eight_cells ((hb3.block w.heap.size (by simp)).trans HBX.out)
      clear hh he hb3
      go_wp2_with fail
      refine (Find_q H.out hl2 x1).mono ?_
      rintro e w4 ⟨he, hw⟩
      subst w4
      rw [HF.out] at he
      obtain rfl := (show e = .returned (.tuple #[.int .i64 i, .bool true]) from he)
      clear he
      go_wp2
      go_ret
      exact ⟨al, rfl, H.out, by omega, hfr⟩
  · cases hF : find al x1 with
    | none =>
      have HF := Lib.hid hF
      clear hF
      go_enter Try.func17, Try.ntmps17
      go_wp2_with fail
      refine (Find_p H.out hl2 x1).mono ?_
      rintro e w3 ⟨he, hb3, hh⟩
      rw [HF.out] at he
      obtain rfl := (show e = .returned (.tuple #[.int .i64 0, .bool false]) from he)
      replace H := Lib.hid hh
      obtain ⟨_, c1, _⟩ := eight_cells ((hb3.block w.heap.size (by simp)).trans HBX.out)
      clear hh he hb3
      go_wp2_with fail
      refine (Find_q H.out hl2 x1).mono ?_
      rintro e w4 ⟨he, hw⟩
      subst w4
      rw [HF.out] at he
      obtain rfl := (show e = .returned (.tuple #[.int .i64 0, .bool false]) from he)
      clear he
      go_wp2
      go_ret
      exact ⟨al, rfl, H.out, by omega, hfr⟩
    | some i =>
      have HF := Lib.hid hF
      clear hF
      go_enter Try.func17, Try.ntmps17
      go_wp2_with fail
      refine (Find_p H.out hl2 x1).mono ?_
      rintro e w3 ⟨he, hb3, hh⟩
      rw [HF.out] at he
      obtain rfl := (show e = .returned (.tuple #[.int .i64 i, .bool true]) from he)
      replace H := Lib.hid hh
      obtain ⟨_, c1, _⟩ := eight_cells ((hb3.block w.heap.size (by simp)).trans HBX.out)
      clear hh he hb3
      go_wp2_with fail
      refine (Find_q H.out hl2 x1).mono ?_
      rintro e w4 ⟨he, hw⟩
      subst w4
      rw [HF.out] at he
      obtain rfl := (show e = .returned (.tuple #[.int .i64 i, .bool true]) from he)
      clear he
      go_wp2
      go_ret
      exact ⟨al, rfl, H.out, by omega, hfr⟩
  · obtain ⟨ps, hps⟩ : ∃ ps, (m : Int) - 1 - x1 = ps := ⟨_, rfl⟩
    cases hF : find al x1 with
    | none =>
      have HF := Lib.hid hF
      clear hF
      go_enter Try.func17, Try.ntmps17
      go_wp2_with fail
      refine HHQ.out.mono ?_
      rintro e w2 ⟨rfl, hw⟩
      subst w2
      go_wp2_with fail
      refine (Find_p H.out hl2 x1).mono ?_
      rintro e w3 ⟨he, hb3, hh⟩
      rw [HF.out] at he
      obtain rfl := (show e = .returned (.tuple #[.int .i64 0, .bool false]) from he)
      replace H := Lib.hid hh
      obtain ⟨_, c1, _⟩ := eight_cells ((hb3.block w.heap.size (by simp)).trans HBX.out)
      clear hh he hb3
      go_wp2_with fail
      refine (Find_q H.out hl2 x1).mono ?_
      rintro e w4 ⟨he, hw⟩
      subst w4
      rw [HF.out] at he
      obtain rfl := (show e = .returned (.tuple #[.int .i64 0, .bool false]) from he)
      clear he
      go_wp2
      go_ret
      exact ⟨al, rfl, H.out, by omega, hfr⟩
    | some i =>
      have HF := Lib.hid hF
      clear hF
      go_enter Try.func17, Try.ntmps17
      go_wp2_with fail
      refine HHQ.out.mono ?_
      rintro e w2 ⟨rfl, hw⟩
      subst w2
      go_wp2_with fail
      refine (Find_p H.out hl2 x1).mono ?_
      rintro e w3 ⟨he, hb3, hh⟩
      rw [HF.out] at he
      obtain rfl := (show e = .returned (.tuple #[.int .i64 i, .bool true]) from he)
      replace H := Lib.hid hh
      obtain ⟨_, c1, _⟩ := eight_cells ((hb3.block w.heap.size (by simp)).trans HBX.out)
      clear hh he hb3
      go_wp2_with fail
      refine (Find_q H.out hl2 x1).mono ?_
      rintro e w4 ⟨he, hw⟩
      subst w4
      rw [HF.out] at he
      obtain rfl := (show e = .returned (.tuple #[.int .i64 i, .bool true]) from he)
      clear he
      go_wp2
      go_ret
      exact ⟨al, rfl, H.out, by omega, hfr⟩

set_option maxHeartbeats 4000000 in
theorem does_get {a w : World} {gp gq : Nat} {size : Int} {al : All} (h : Pr a gp gq size al al w) (hl : al.length ≤ 100000) (_h0 : 1 ≤ size) (_h1 : size ≤ 256) (hfr : 0 ≤ size - al.length + tl al) (x1 : Int) (last : Bool) (k l s f : Int) (Ap : Option Addr) (np cp : Nat) (xs : List UInt8) (_hnp : np ≤ 1000) (_hby : Bytes w a.heap.size Ap np xs) :
    Calls Try.prog 17 #[ptr gp, ptr gq, .agg #[.int .i64 5, .int .i64 x1, .bool last, .int .i64 k, .int .i64 l, .int .i64 s, .slice Ap np cp, .int .i64 f]] w (Both a gp gq size al) := by
  have h0 := _h0
  have h1 := _h1
  have hnp := _hnp
  have hby := _hby
  have hb := (Below.refl w.heap.size w).alloc (Nat.le_refl _) (.cells #[.int .i64 5, .int .i64 x1, .bool last, .int .i64 k, .int .i64 l, .int .i64 s, .slice Ap np cp, .int .i64 f] 37)
  have H := Lib.hid (h.on hb)
  have HB := Lib.hid hb
  have hl2 : al.length ≤ 1000000 := by omega
  have HHQ := Lib.hid (Head_q H.out)
  clear h hb hby _hby
  obtain ⟨m, hm⟩ : ∃ m, m = al.length := ⟨_, rfl⟩
  rw [← hm] at HHQ
  have HM := Lib.hid hm
  have hm2 : m ≤ 100000 := by omega
  clear hm
  have hway : last = false ∨ (last = true ∧ x1 < 0) ∨ (last = true ∧ ¬ x1 < 0 ∧ 1000 < x1) ∨ (last = true ∧ 0 ≤ x1 ∧ x1 ≤ 1000) := by
    cases last
    · exact .inl rfl
    · refine .inr ?_
      by_cases hx : x1 < 0
      · exact .inl ⟨rfl, hx⟩
      · by_cases hx2 : 1000 < x1
        · exact .inr (.inl ⟨rfl, hx, hx2⟩)
        · exact .inr (.inr ⟨rfl, by omega, by omega⟩)
  rcases hway with rfl | ⟨rfl, hx⟩ | ⟨rfl, hx, hx2⟩ | ⟨rfl, hx, hx2⟩
  · by_cases hth : there al x1
    rotate_left
    · have HTH := Lib.hid hth
      go_enter Try.func17, Try.ntmps17
      go_wp2_with fail
      refine (Get_none_p H.out hl2 x1 HTH.out).mono ?_
      rintro e w3 ⟨rfl, _, hh⟩
      have hb3 := (Below.refl w3.heap.size w3).alloc (Nat.le_refl _) (.cells #[.int .i64 0, .int .i64 0, .int .i64 0, .slice none 0 0, .int .i64 0] 35)
      replace H := Lib.hid (hh.on hb3)
      have HV3 := Lib.hid (Five.new w3 35 (.int .i64 0) (.int .i64 0) (.int .i64 0) (.slice none 0 0) (.int .i64 0))
      clear hh hb3
      go_wp2_with fail
      refine (Get_none_q H.out hl2 x1 HTH.out).mono ?_
      rintro e w4 ⟨rfl, hb4, hh⟩
      have hb5 := (Below.refl w4.heap.size w4).alloc (Nat.le_refl _) (.cells #[.int .i64 0, .int .i64 0, .int .i64 0, .slice none 0 0, .int .i64 0] 35)
      replace H := Lib.hid (hh.on hb5)
      obtain ⟨c0, c1, c2, c3, c4⟩ := ((HV3.out.below hb4).old (.cells #[.int .i64 0, .int .i64 0, .int .i64 0, .slice none 0 0, .int .i64 0] 35)).cells
      have HS := Lib.hid (Same_eq ⟨0, 0, 0, [], 0⟩ none none 0 0 0 (w4.alloc (.cells #[.int .i64 0, .int .i64 0, .int .i64 0, .slice none 0 0, .int .i64 0] 35)) (bytes_none _ _) (bytes_none _ _))
      clear hh hb4 hb5 HV3
      go_wp2_with fail
      refine HS.out.mono ?_
      rintro e w6 ⟨rfl, hb⟩
      replace H := Lib.hid (H.out.on hb)
      clear hb HS
      go_wp2
      go_ret
      exact ⟨al, rfl, H.out, by omega, hfr⟩
    obtain ⟨i, hpi⟩ := Int.eq_ofNat_of_zero_le (show 0 ≤ x1 by have := hth.1; omega)
    subst hpi
    have hi : tl al ≤ i := by have := hth.1; omega
    obtain ⟨x, hx'⟩ : ∃ x, al[i]? = some x := ⟨_, List.getElem?_eq_getElem (by have := hth.2; omega)⟩
    have HX := Lib.hid hx'
    clear hx' hth
    go_enter Try.func17, Try.ntmps17
    go_wp2_with fail
    refine (Get_p H.out hl2 i x hi HX.out).mono ?_
    rintro e w3 ⟨v3, rfl, ho3, _, hh⟩
    obtain ⟨A3, c3, rfl, hr3⟩ := ho3.reads
    obtain ⟨⟨sk, sl, ss, sd, sf⟩, sq⟩ := x
    simp only at hr3 ⊢
    have hb3 := (Below.refl w3.heap.size w3).alloc (Nat.le_refl _) (.cells #[.int .i64 sk, .int .i64 sl, .int .i64 ss, .slice A3 sd.length c3, .int .i64 sf] 35)
    replace H := Lib.hid (hh.on hb3)
    have HV3 := Lib.hid (Five.new w3 35 (.int .i64 sk) (.int .i64 sl) (.int .i64 ss) (.slice A3 sd.length c3) (.int .i64 sf))
    have HR3 := Lib.hid (bytes_more (bytes_keep hr3 hb3) hb3.size)
    clear hh hb3 hr3 ho3
    go_wp2_with fail
    refine (Get_q H.out hl2 i _ hi HX.out).mono ?_
    rintro e w4 ⟨v4, rfl, ho4, hb4, hh⟩
    obtain ⟨A4, c4', rfl, hr4⟩ := ho4.reads
    simp only at hr4 ⊢
    have hb5 := (Below.refl w4.heap.size w4).alloc (Nat.le_refl _) (.cells #[.int .i64 sk, .int .i64 sl, .int .i64 ss, .slice A4 sd.length c4', .int .i64 sf] 35)
    replace H := Lib.hid (hh.on hb5)
    obtain ⟨c0, c1, c2, c3', c4⟩ := ((HV3.out.below hb4).old (.cells #[.int .i64 sk, .int .i64 sl, .int .i64 ss, .slice A4 sd.length c4', .int .i64 sf] 35)).cells
    have HS := Lib.hid (Same_eq ⟨sk, sl, ss, sd, sf⟩ A3 A4 sd.length c3 c4' _ (bytes_more (bytes_keep (bytes_more (bytes_keep HR3.out hb4) hb4.size) hb5) hb5.size) (bytes_more (bytes_keep hr4 hb5) hb5.size))
    clear hh hb4 hb5 HV3 HR3 hr4 ho4
    go_wp2_with fail
    refine HS.out.mono ?_
    rintro e w6 ⟨rfl, hb⟩
    replace H := Lib.hid (H.out.on hb)
    clear hb HS
    go_wp2
    go_ret
    exact ⟨al, rfl, H.out, by omega, hfr⟩
  · have hth : ¬ there al x1 := fun hth => by have := hth.1; omega
    have HTH := Lib.hid hth
    go_enter Try.func17, Try.ntmps17
    go_wp2_with fail
    refine (Get_none_p H.out hl2 x1 HTH.out).mono ?_
    rintro e w3 ⟨rfl, _, hh⟩
    have hb3 := (Below.refl w3.heap.size w3).alloc (Nat.le_refl _) (.cells #[.int .i64 0, .int .i64 0, .int .i64 0, .slice none 0 0, .int .i64 0] 35)
    replace H := Lib.hid (hh.on hb3)
    have HV3 := Lib.hid (Five.new w3 35 (.int .i64 0) (.int .i64 0) (.int .i64 0) (.slice none 0 0) (.int .i64 0))
    clear hh hb3
    go_wp2_with fail
    refine (Get_none_q H.out hl2 x1 HTH.out).mono ?_
    rintro e w4 ⟨rfl, hb4, hh⟩
    have hb5 := (Below.refl w4.heap.size w4).alloc (Nat.le_refl _) (.cells #[.int .i64 0, .int .i64 0, .int .i64 0, .slice none 0 0, .int .i64 0] 35)
    replace H := Lib.hid (hh.on hb5)
    obtain ⟨c0, c1, c2, c3, c4⟩ := ((HV3.out.below hb4).old (.cells #[.int .i64 0, .int .i64 0, .int .i64 0, .slice none 0 0, .int .i64 0] 35)).cells
    have HS := Lib.hid (Same_eq ⟨0, 0, 0, [], 0⟩ none none 0 0 0 (w4.alloc (.cells #[.int .i64 0, .int .i64 0, .int .i64 0, .slice none 0 0, .int .i64 0] 35)) (bytes_none _ _) (bytes_none _ _))
    clear hh hb4 hb5 HV3
    go_wp2_with fail
    refine HS.out.mono ?_
    rintro e w6 ⟨rfl, hb⟩
    replace H := Lib.hid (H.out.on hb)
    clear hb HS
    go_wp2
    go_ret
    exact ⟨al, rfl, H.out, by omega, hfr⟩
  · by_cases hth : there al x1
    rotate_left
    · have HTH := Lib.hid hth
      go_enter Try.func17, Try.ntmps17
      go_wp2_with fail
      refine (Get_none_p H.out hl2 x1 HTH.out).mono ?_
      rintro e w3 ⟨rfl, _, hh⟩
      have hb3 := (Below.refl w3.heap.size w3).alloc (Nat.le_refl _) (.cells #[.int .i64 0, .int .i64 0, .int .i64 0, .slice none 0 0, .int .i64 0] 35)
      replace H := Lib.hid (hh.on hb3)
      have HV3 := Lib.hid (Five.new w3 35 (.int .i64 0) (.int .i64 0) (.int .i64 0) (.slice none 0 0) (.int .i64 0))
      clear hh hb3
      go_wp2_with fail
      refine (Get_none_q H.out hl2 x1 HTH.out).mono ?_
      rintro e w4 ⟨rfl, hb4, hh⟩
      have hb5 := (Below.refl w4.heap.size w4).alloc (Nat.le_refl _) (.cells #[.int .i64 0, .int .i64 0, .int .i64 0, .slice none 0 0, .int .i64 0] 35)
      replace H := Lib.hid (hh.on hb5)
      obtain ⟨c0, c1, c2, c3, c4⟩ := ((HV3.out.below hb4).old (.cells #[.int .i64 0, .int .i64 0, .int .i64 0, .slice none 0 0, .int .i64 0] 35)).cells
      have HS := Lib.hid (Same_eq ⟨0, 0, 0, [], 0⟩ none none 0 0 0 (w4.alloc (.cells #[.int .i64 0, .int .i64 0, .int .i64 0, .slice none 0 0, .int .i64 0] 35)) (bytes_none _ _) (bytes_none _ _))
      clear hh hb4 hb5 HV3
      go_wp2_with fail
      refine HS.out.mono ?_
      rintro e w6 ⟨rfl, hb⟩
      replace H := Lib.hid (H.out.on hb)
      clear hb HS
      go_wp2
      go_ret
      exact ⟨al, rfl, H.out, by omega, hfr⟩
    obtain ⟨i, hpi⟩ := Int.eq_ofNat_of_zero_le (show 0 ≤ x1 by have := hth.1; omega)
    subst hpi
    have hi : tl al ≤ i := by have := hth.1; omega
    obtain ⟨x, hx'⟩ : ∃ x, al[i]? = some x := ⟨_, List.getElem?_eq_getElem (by have := hth.2; omega)⟩
    have HX := Lib.hid hx'
    clear hx' hth
    go_enter Try.func17, Try.ntmps17
    go_wp2_with fail
    refine (Get_p H.out hl2 i x hi HX.out).mono ?_
    rintro e w3 ⟨v3, rfl, ho3, _, hh⟩
    obtain ⟨A3, c3, rfl, hr3⟩ := ho3.reads
    obtain ⟨⟨sk, sl, ss, sd, sf⟩, sq⟩ := x
    simp only at hr3 ⊢
    have hb3 := (Below.refl w3.heap.size w3).alloc (Nat.le_refl _) (.cells #[.int .i64 sk, .int .i64 sl, .int .i64 ss, .slice A3 sd.length c3, .int .i64 sf] 35)
    replace H := Lib.hid (hh.on hb3)
    have HV3 := Lib.hid (Five.new w3 35 (.int .i64 sk) (.int .i64 sl) (.int .i64 ss) (.slice A3 sd.length c3) (.int .i64 sf))
    have HR3 := Lib.hid (bytes_more (bytes_keep hr3 hb3) hb3.size)
    clear hh hb3 hr3 ho3
    go_wp2_with fail
    refine (Get_q H.out hl2 i _ hi HX.out).mono ?_
    rintro e w4 ⟨v4, rfl, ho4, hb4, hh⟩
    obtain ⟨A4, c4', rfl, hr4⟩ := ho4.reads
    simp only at hr4 ⊢
    have hb5 := (Below.refl w4.heap.size w4).alloc (Nat.le_refl _) (.cells #[.int .i64 sk, .int .i64 sl, .int .i64 ss, .slice A4 sd.length c4', .int .i64 sf] 35)
    replace H := Lib.hid (hh.on hb5)
    obtain ⟨c0, c1, c2, c3', c4⟩ := ((HV3.out.below hb4).old (.cells #[.int .i64 sk, .int .i64 sl, .int .i64 ss, .slice A4 sd.length c4', .int .i64 sf] 35)).cells
    have HS := Lib.hid (Same_eq ⟨sk, sl, ss, sd, sf⟩ A3 A4 sd.length c3 c4' _ (bytes_more (bytes_keep (bytes_more (bytes_keep HR3.out hb4) hb4.size) hb5) hb5.size) (bytes_more (bytes_keep hr4 hb5) hb5.size))
    clear hh hb4 hb5 HV3 HR3 hr4 ho4
    go_wp2_with fail
    refine HS.out.mono ?_
    rintro e w6 ⟨rfl, hb⟩
    replace H := Lib.hid (H.out.on hb)
    clear hb HS
    go_wp2
    go_ret
    exact ⟨al, rfl, H.out, by omega, hfr⟩
  · obtain ⟨ps, hps⟩ : ∃ ps, (m : Int) - 1 - x1 = ps := ⟨_, rfl⟩
    by_cases hth : there al ps
    rotate_left
    · have HTH := Lib.hid hth
      go_enter Try.func17, Try.ntmps17
      go_wp2_with fail
      refine HHQ.out.mono ?_
      rintro e w2 ⟨rfl, hw⟩
      subst w2
      go_wp2_with fail
      refine (Get_none_p H.out hl2 ps HTH.out).mono ?_
      rintro e w3 ⟨rfl, _, hh⟩
      have hb3 := (Below.refl w3.heap.size w3).alloc (Nat.le_refl _) (.cells #[.int .i64 0, .int .i64 0, .int .i64 0, .slice none 0 0, .int .i64 0] 35)
      replace H := Lib.hid (hh.on hb3)
      have HV3 := Lib.hid (Five.new w3 35 (.int .i64 0) (.int .i64 0) (.int .i64 0) (.slice none 0 0) (.int .i64 0))
      clear hh hb3
      go_wp2_with fail
      refine (Get_none_q H.out hl2 ps HTH.out).mono ?_
      rintro e w4 ⟨rfl, hb4, hh⟩
      have hb5 := (Below.refl w4.heap.size w4).alloc (Nat.le_refl _) (.cells #[.int .i64 0, .int .i64 0, .int .i64 0, .slice none 0 0, .int .i64 0] 35)
      replace H := Lib.hid (hh.on hb5)
      obtain ⟨c0, c1, c2, c3, c4⟩ := ((HV3.out.below hb4).old (.cells #[.int .i64 0, .int .i64 0, .int .i64 0, .slice none 0 0, .int .i64 0] 35)).cells
      have HS := Lib.hid (Same_eq ⟨0, 0, 0, [], 0⟩ none none 0 0 0 (w4.alloc (.cells #[.int .i64 0, .int .i64 0, .int .i64 0, .slice none 0 0, .int .i64 0] 35)) (bytes_none _ _) (bytes_none _ _))
      clear hh hb4 hb5 HV3
      go_wp2_with fail
      refine HS.out.mono ?_
      rintro e w6 ⟨rfl, hb⟩
      replace H := Lib.hid (H.out.on hb)
      clear hb HS
      go_wp2
      go_ret
      exact ⟨al, rfl, H.out, by omega, hfr⟩
    obtain ⟨i, hpi⟩ := Int.eq_ofNat_of_zero_le (show 0 ≤ ps by have := hth.1; omega)
    subst hpi
    have hi : tl al ≤ i := by have := hth.1; omega
    obtain ⟨x, hx'⟩ : ∃ x, al[i]? = some x := ⟨_, List.getElem?_eq_getElem (by have := hth.2; omega)⟩
    have HX := Lib.hid hx'
    clear hx' hth
    go_enter Try.func17, Try.ntmps17
    go_wp2_with fail
    refine HHQ.out.mono ?_
    rintro e w2 ⟨rfl, hw⟩
    subst w2
    go_wp2_with fail
    refine (Get_p H.out hl2 i x hi HX.out).mono ?_
    rintro e w3 ⟨v3, rfl, ho3, _, hh⟩
    obtain ⟨A3, c3, rfl, hr3⟩ := ho3.reads
    obtain ⟨⟨sk, sl, ss, sd, sf⟩, sq⟩ := x
    simp only at hr3 ⊢
    have hb3 := (Below.refl w3.heap.size w3).alloc (Nat.le_refl _) (.cells #[.int .i64 sk, .int .i64 sl, .int .i64 ss, .slice A3 sd.length c3, .int .i64 sf] 35)
    replace H := Lib.hid (hh.on hb3)
    have HV3 := Lib.hid (Five.new w3 35 (.int .i64 sk) (.int .i64 sl) (.int .i64 ss) (.slice A3 sd.length c3) (.int .i64 sf))
    have HR3 := Lib.hid (bytes_more (bytes_keep hr3 hb3) hb3.size)
    clear hh hb3 hr3 ho3
    go_wp2_with fail
    refine (Get_q H.out hl2 i _ hi HX.out).mono ?_
    rintro e w4 ⟨v4, rfl, ho4, hb4, hh⟩
    obtain ⟨A4, c4', rfl, hr4⟩ := ho4.reads
    simp only at hr4 ⊢
    have hb5 := (Below.refl w4.heap.size w4).alloc (Nat.le_refl _) (.cells #[.int .i64 sk, .int .i64 sl, .int .i64 ss, .slice A4 sd.length c4', .int .i64 sf] 35)
    replace H := Lib.hid (hh.on hb5)
    obtain ⟨c0, c1, c2, c3', c4⟩ := ((HV3.out.below hb4).old (.cells #[.int .i64 sk, .int .i64 sl, .int .i64 ss, .slice A4 sd.length c4', .int .i64 sf] 35)).cells
    have HS := Lib.hid (Same_eq ⟨sk, sl, ss, sd, sf⟩ A3 A4 sd.length c3 c4' _ (bytes_more (bytes_keep (bytes_more (bytes_keep HR3.out hb4) hb4.size) hb5) hb5.size) (bytes_more (bytes_keep hr4 hb5) hb5.size))
    clear hh hb4 hb5 HV3 HR3 hr4 ho4
    go_wp2_with fail
    refine HS.out.mono ?_
    rintro e w6 ⟨rfl, hb⟩
    replace H := Lib.hid (H.out.on hb)
    clear hb HS
    go_wp2
    go_ret
    exact ⟨al, rfl, H.out, by omega, hfr⟩

end Go.Proofs.Ytmefmhjebodjgaa.RingLaw
