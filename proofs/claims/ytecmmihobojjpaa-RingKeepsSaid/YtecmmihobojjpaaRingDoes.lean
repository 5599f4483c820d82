/-
  What the laws' 'does' of layer 10 does: an op at both rings; Done, Back, and what is none.
-/
import Derived.Test.YtecmmihobojjpaaRingInts
import Derived.Test.YtecmmihobojjpaaRingSame
namespace Go.Proofs.Ytecmmihobojjpaa.RingLaw
open Go.RowKit Ring RingPkg
set_option maxRecDepth 4000

theorem free_put {size : Int} {al : All} (hf : ¬ size - al.length + tl al = 0) (h0 : 0 ≤ size - al.length + tl al) (s : Slot) : 0 ≤ size - (al ++ [(s, 0)]).length + tl (al ++ [(s, 0)]) := by
  rw [tl_put, List.length_append]
  simp
  omega

theorem take_tl (al : All) (n : Nat) : tl (Ring.mark (out 1) ((sel (isQ 0) al).take n) al) = tl al := by
  have h := sel_drop (isQ 0) al (tl al) (tl_le al) (fun x hx => by have := tl_done al x hx; simp [isQ, this])
  rw [h, ← List.map_take]
  exact tl_mark al _

theorem done_tl (al : All) (i : Nat) (hi : tl al ≤ i) : tl al ≤ tl (al.modify i (out 2)) := by
  rw [tl_split (al.modify i (out 2)) (tl al) (by rw [List.length_modify]; exact tl_le al) (fun x hx => by
    obtain ⟨j, hj⟩ := List.getElem?_of_mem hx
    rw [List.getElem?_take] at hj
    split at hj
    · rw [List.getElem?_modify] at hj
      have hne : ¬ i = j := by omega
      simp only [hne, if_false, id_map'] at hj
      exact tl_done al x (List.mem_of_getElem? (by rw [List.getElem?_take, if_pos (by assumption)]; simpa using hj))
    · cases hj)]
  exact Nat.le_add_right _ _

/-- What a law's op leaves of both. -/
def Both (a : World) (gp gq : Nat) (size : Int) (al : All) (e : Ending) (w' : World) : Prop := ∃ al', e = .returned (.bool true) ∧ Pr a gp gq size al' al' w' ∧ al'.length ≤ al.length + 1 ∧ 0 ≤ size - al'.length + tl al'

theorem eight_cells {w : World} {g : Nat} {t : TypeId} {x0 x1 x2 x3 x4 x5 x6 x7 : Value} (h : w.heap[g]? = some (.cells #[x0, x1, x2, x3, x4, x5, x6, x7] t (0, 0))) : w.cell? ⟨g, 0, none⟩ = some x0 ∧ w.cell? ⟨g, 1, none⟩ = some x1 ∧ w.cell? ⟨g, 2, none⟩ = some x2 ∧ w.cell? ⟨g, 3, none⟩ = some x3 ∧ w.cell? ⟨g, 4, none⟩ = some x4 ∧ w.cell? ⟨g, 5, none⟩ = some x5 ∧ w.cell? ⟨g, 6, none⟩ = some x6 ∧ w.cell? ⟨g, 7, none⟩ = some x7 := by
  simp [World.cell?, h]

set_option maxHeartbeats 4000000 in
theorem does_other {a w : World} {gp gq : Nat} {size : Int} {al : All} (h : Pr a gp gq size al al w) (hl : al.length ≤ 100000) (_h0 : 1 ≤ size) (_h1 : size ≤ 256) (hfr : 0 ≤ size - al.length + tl al) (x0 : Int) (x1 : Int) (last : Bool) (k l s f : Int) (Ap : Option Addr) (np cp : Nat) (xs : List UInt8) (_hnp : np ≤ 1000) (_hby : Bytes w a.heap.size Ap np xs) (hx0 : ¬ x0 = 0) (hx1 : ¬ x0 = 1) (hx2 : ¬ x0 = 2) (hx3 : ¬ x0 = 3) (hx4 : ¬ x0 = 4) (hx5 : ¬ x0 = 5) (hx6 : ¬ x0 = 6) :
    Calls Try.prog 17 #[ptr gp, ptr gq, .agg #[.int .i64 x0, .int .i64 x1, .bool last, .int .i64 k, .int .i64 l, .int .i64 s, .slice Ap np cp, .int .i64 f]] w (Both a gp gq size al) := by
  have h0 := _h0
  have h1 := _h1
  have hnp := _hnp
  have hby := _hby
  have hb := (Below.refl w.heap.size w).alloc (Nat.le_refl _) (.cells #[.int .i64 x0, .int .i64 x1, .bool last, .int .i64 k, .int .i64 l, .int .i64 s, .slice Ap np cp, .int .i64 f] 37)
  have H := Lib.hid (h.on hb)
  have HB := Lib.hid hb
  have hl2 : al.length ≤ 1000000 := by omega
  have HHQ := Lib.hid (Head_q H.out)
  have e0 : (x0 == 0) = false := by simpa using hx0
  have e1 : (x0 == 1) = false := by simpa using hx1
  have e2 : (x0 == 2) = false := by simpa using hx2
  have e3 : (x0 == 3) = false := by simpa using hx3
  have e4 : (x0 == 4) = false := by simpa using hx4
  have e5 : (x0 == 5) = false := by simpa using hx5
  have e6 : (x0 == 6) = false := by simpa using hx6
  clear hx0 hx1 hx2 hx3 hx4 hx5 hx6
  clear h hb hby _hby
  obtain ⟨m, hm⟩ : ∃ m, m = al.length := ⟨_, rfl⟩
  rw [← hm] at HHQ
  have HM := Lib.hid hm
  have hm2 : m ≤ 100000 := by omega
  clear hm
  have hway : last = false ∨ (last = true ∧ x1 < 0) ∨ (last = true ∧ ¬ x1 < 0 ∧ 1000 < x1) ∨ (last = true ∧ 0 ≤ x1 ∧ x1 ≤ 1000) := by
    cases last
    · exact .inl rfl
    · refine .inr ?_
      by_cases hx : x1 < 0
      · exact .inl ⟨rfl, hx⟩
      · by_cases hx2 : 1000 < x1
        · exact .inr (.inl ⟨rfl, hx, hx2⟩)
        · exact .inr (.inr ⟨rfl, by omega, by omega⟩)
  rcases hway with rfl | ⟨rfl, hx⟩ | ⟨rfl, hx, hx2⟩ | ⟨rfl, hx, hx2⟩
  · go_enter Try.func17, Try.ntmps17
    go_wp2
    go_ret
    exact ⟨al, rfl, H.out, by omega, hfr⟩
  · go_enter Try.func17, Try.ntmps17
    go_wp2
    go_ret
    exact ⟨al, rfl, H.out, by omega, hfr⟩
  · go_enter Try.func17, Try.ntmps17
    go_wp2
    go_ret
    exact ⟨al, rfl, H.out, by omega, hfr⟩
  · obtain ⟨ps, hps⟩ : ∃ ps, (m : Int) - 1 - x1 = ps := ⟨_, rfl⟩
    go_enter Try.func17, Try.ntmps17
    go_wp2_with fail
    refine HHQ.out.mono ?_
    rintro e w2 ⟨rfl, hw⟩
    subst w2
    go_wp2
    go_ret
    exact ⟨al, rfl, H.out, by omega, hfr⟩

set_option maxHeartbeats 4000000 in
theorem does_done {a w : World} {gp gq : Nat} {size : Int} {al : All} (h : Pr a gp gq size al al w) (hl : al.length ≤ 100000) (_h0 : 1 ≤ size) (_h1 : size ≤ 256) (hfr : 0 ≤ size - al.length + tl al) (x1 : Int) (last : Bool) (k l s f : Int) (Ap : Option Addr) (np cp : Nat) (xs : List UInt8) (_hnp : np ≤ 1000) (_hby : Bytes w a.heap.size Ap np xs) :
    Calls Try.prog 17 #[ptr gp, ptr gq, .agg #[.int .i64 3, .int .i64 x1, .bool last, .int .i64 k, .int .i64 l, .int .i64 s, .slice Ap np cp, .int .i64 f]] w (Both a gp gq size al) := by
  have h0 := _h0
  have h1 := _h1
  have hnp := _hnp
  have hby := _hby
  have hb := (Below.refl w.heap.size w).alloc (Nat.le_refl _) (.cells #[.int .i64 3, .int .i64 x1, .bool last, .int .i64 k, .int .i64 l, .int .i64 s, .slice Ap np cp, .int .i64 f] 37)
  have H := Lib.hid (h.on hb)
  have HB := Lib.hid hb
  have hl2 : al.length ≤ 1000000 := by omega
  have HHQ := Lib.hid (Head_q H.out)
  clear h hb hby _hby
  obtain ⟨m, hm⟩ : ∃ m, m = al.length := ⟨_, rfl⟩
  rw [← hm] at HHQ
  have HM := Lib.hid hm
  have hm2 : m ≤ 100000 := by omega
  clear hm
  have hway : last = false ∨ (last = true ∧ x1 < 0) ∨ (last = true ∧ ¬ x1 < 0 ∧ 1000 < x1) ∨ (last = true ∧ 0 ≤ x1 ∧ x1 ≤ 1000) := by
    cases last
    · exact .inl rfl
    · refine .inr ?_
      by_cases hx : x1 < 0
      · exact .inl ⟨rfl, hx⟩
      · by_cases hx2 : 1000 < x1
        · exact .inr (.inl ⟨rfl, hx, hx2⟩)
        · exact .inr (.inr ⟨rfl, by omega, by omega⟩)
  rcases hway with rfl | ⟨rfl, hx⟩ | ⟨rfl, hx, hx2⟩ | ⟨rfl, hx, hx2⟩
  · by_cases hth : there al x1
    rotate_left
    · have HTH := Lib.hid hth
      go_enter Try.func17, Try.ntmps17
      go_wp2_with fail
      refine (Done_none_p H.out hl2 x1 HTH.out).mono ?_
      rintro e w3 ⟨rfl, hh⟩
      replace H := Lib.hid hh
      clear hh
      go_wp2_with fail
      refine (Done_none_q H.out hl2 x1 HTH.out).mono ?_
      rintro e w4 ⟨rfl, hw⟩
      subst w4
      go_wp2
      go_ret
      exact ⟨al, rfl, H.out, by omega, hfr⟩
    obtain ⟨i, hpi⟩ := Int.eq_ofNat_of_zero_le (show 0 ≤ x1 by have := hth.1; omega)
    subst hpi
    have hi : tl al ≤ i := by have := hth.1; omega
    obtain ⟨x, hx'⟩ : ∃ x, al[i]? = some x := ⟨_, List.getElem?_eq_getElem (by have := hth.2; omega)⟩
    have HX := Lib.hid hx'
    clear hx' hth
    by_cases hq : x.2 = 1
    · have HQ := Lib.hid hq
      clear hq
      go_enter Try.func17, Try.ntmps17
      go_wp2_with fail
      refine (Done_ok_p H.out hl2 i x hi HX.out HQ.out).mono ?_
      rintro e w3 ⟨rfl, hh⟩
      replace H := Lib.hid hh
      clear hh
      go_wp2_with fail
      refine (Done_ok_q H.out hl2 i x hi HX.out HQ.out).mono ?_
      rintro e w4 ⟨rfl, hh⟩
      replace H := Lib.hid hh
      clear hh
      go_wp2
      go_ret
      exact ⟨al.modify i (out 2), rfl, H.out, by rw [List.length_modify]; omega, by rw [List.length_modify]; have := done_tl al i hi; omega⟩
    go_enter Try.func17, Try.ntmps17
    go_wp2_with fail
    refine (Done_state_p H.out hl2 i x hi HX.out hq).mono ?_
    rintro e w3 ⟨rfl, hh⟩
    replace H := Lib.hid hh
    clear hh
    go_wp2_with fail
    refine (Done_state_q H.out hl2 i x hi HX.out hq).mono ?_
    rintro e w4 ⟨rfl, hw⟩
    subst w4
    go_wp2
    go_ret
    exact ⟨al, rfl, H.out, by omega, hfr⟩
  · have hth : ¬ there al x1 := fun hth => by have := hth.1; omega
    have HTH := Lib.hid hth
    go_enter Try.func17, Try.ntmps17
    go_wp2_with fail
    refine (Done_none_p H.out hl2 x1 HTH.out).mono ?_
    rintro e w3 ⟨rfl, hh⟩
    replace H := Lib.hid hh
    clear hh
    go_wp2_with fail
    refine (Done_none_q H.out hl2 x1 HTH.out).mono ?_
    rintro e w4 ⟨rfl, hw⟩
    subst w4
    go_wp2
    go_ret
    exact ⟨al, rfl, H.out, by omega, hfr⟩
  · by_cases hth : there al x1
    rotate_left
    · have HTH := Lib.hid hth
      go_enter Try.func17, Try.ntmps17
      go_wp2_with fail
      refine (Done_none_p H.out hl2 x1 HTH.out).mono ?_
      rintro e w3 ⟨rfl, hh⟩
      replace H := Lib.hid hh
      clear hh
      go_wp2_with fail
      refine (Done_none_q H.out hl2 x1 HTH.out).mono ?_
      rintro e w4 ⟨rfl, hw⟩
      subst w4
      go_wp2
      go_ret
      exact ⟨al, rfl, H.out, by omega, hfr⟩
    obtain ⟨i, hpi⟩ := Int.eq_ofNat_of_zero_le (show 0 ≤ x1 by have := hth.1; omega)
    subst hpi
    have hi : tl al ≤ i := by have := hth.1; omega
    obtain ⟨x, hx'⟩ : ∃ x, al[i]? = some x := ⟨_, List.getElem?_eq_getElem (by have := hth.2; omega)⟩
    have HX := Lib.hid hx'
    clear hx' hth
    by_cases hq : x.2 = 1
    · have HQ := Lib.hid hq
      clear hq
      go_enter Try.func17, Try.ntmps17
      go_wp2_with fail
      refine (Done_ok_p H.out hl2 i x hi HX.out HQ.out).mono ?_
      rintro e w3 ⟨rfl, hh⟩
      replace H := Lib.hid hh
      clear hh
      go_wp2_with fail
      refine (Done_ok_q H.out hl2 i x hi HX.out HQ.out).mono ?_
      rintro e w4 ⟨rfl, hh⟩
      replace H := Lib.hid hh
      clear hh
      go_wp2
      go_ret
      exact ⟨al.modify i (out 2), rfl, H.out, by rw [List.length_modify]; omega, by rw [List.length_modify]; have := done_tl al i hi; omega⟩
    go_enter Try.func17, Try.ntmps17
    go_wp2_with fail
    refine (Done_state_p H.out hl2 i x hi HX.out hq).mono ?_
    rintro e w3 ⟨rfl, hh⟩
    replace H := Lib.hid hh
    clear hh
    go_wp2_with fail
    refine (Done_state_q H.out hl2 i x hi HX.out hq).mono ?_
    rintro e w4 ⟨rfl, hw⟩
    subst w4
    go_wp2
    go_ret
    exact ⟨al, rfl, H.out, by omega, hfr⟩
  · obtain ⟨ps, hps⟩ : ∃ ps, (m : Int) - 1 - x1 = ps := ⟨_, rfl⟩
    by_cases hth : there al ps
    rotate_left
    · have HTH := Lib.hid hth
      go_enter Try.func17, Try.ntmps17
      go_wp2_with fail
      refine HHQ.out.mono ?_
      rintro e w2 ⟨rfl, hw⟩
      subst w2
      go_wp2_with fail
      refine (Done_none_p H.out hl2 ps HTH.out).mono ?_
      rintro e w3 ⟨rfl, hh⟩
      replace H := Lib.hid hh
      clear hh
      go_wp2_with fail
      refine (Done_none_q H.out hl2 ps HTH.out).mono ?_
      rintro e w4 ⟨rfl, hw⟩
      subst w4
      go_wp2
      go_ret
      exact ⟨al, rfl, H.out, by omega, hfr⟩
    obtain ⟨i, hpi⟩ := Int.eq_ofNat_of_zero_le (show 0 ≤ ps by have := hth.1; omega)
    subst hpi
    have hi : tl al ≤ i := by have := hth.1; omega
    obtain ⟨x, hx'⟩ : ∃ x, al[i]? = some x := ⟨_, List.getElem?_eq_getElem (by have := hth.2; omega)⟩
    have HX := Lib.hid hx'
    clear hx' hth
    by_cases hq : x.2 = 1
    · have HQ := Lib.hid hq
      clear hq
      go_enter Try.func17, Try.ntmps17
      go_wp2_with fail
      refine HHQ.out.mono ?_
      rintro e w2 ⟨rfl, hw⟩
      subst w2
      go_wp2_with fail
      refine (Done_ok_p H.out hl2 i x hi HX.out HQ.out).mono ?_
      rintro e w3 ⟨rfl, hh⟩
      replace H := Lib.hid hh
      clear hh
      go_wp2_with fail
      refine (Done_ok_q H.out hl2 i x hi HX.out HQ.out).mono ?_
      rintro e w4 ⟨rfl, hh⟩
      replace H := Lib.hid hh
      clear hh
      go_wp2
      go_ret
      exact ⟨al.modify i (out 2), rfl, H.out, by rw [List.length_modify]; omega, by rw [List.length_modify]; have := done_tl al i hi; omega⟩
    go_enter Try.func17, Try.ntmps17
    go_wp2_with fail
    refine HHQ.out.mono ?_
    rintro e w2 ⟨rfl, hw⟩
    subst w2
    go_wp2_with fail
    refine (Done_state_p H.out hl2 i x hi HX.out hq).mono ?_
    rintro e w3 ⟨rfl, hh⟩
    replace H := Lib.hid hh
    clear hh
    go_wp2_with fail
    refine (Done_state_q H.out hl2 i x hi HX.out hq).mono ?_
    rintro e w4 ⟨rfl, hw⟩
    subst w4
    go_wp2
    go_ret
    exact ⟨al, rfl, H.out, by omega, hfr⟩

set_option maxHeartbeats 4000000 in
theorem does_back {a w : World} {gp gq : Nat} {size : Int} {al : All} (h : Pr a gp gq size al al w) (hl : al.length ≤ 100000) (_h0 : 1 ≤ size) (_h1 : size ≤ 256) (hfr : 0 ≤ size - al.length + tl al) (x1 : Int) (last : Bool) (k l s f : Int) (Ap : Option Addr) (np cp : Nat) (xs : List UInt8) (_hnp : np ≤ 1000) (_hby : Bytes w a.heap.size Ap np xs) :
    Calls Try.prog 17 #[ptr gp, ptr gq, .agg #[.int .i64 4, .int .i64 x1, .bool last, .int .i64 k, .int .i64 l, .int .i64 s, .slice Ap np cp, .int .i64 f]] w (Both a gp gq size al) := by
  have h0 := _h0
  have h1 := _h1
  have hnp := _hnp
  have hby := _hby
  have hb := (Below.refl w.heap.size w).alloc (Nat.le_refl _) (.cells #[.int .i64 4, .int .i64 x1, .bool last, .int .i64 k, .int .i64 l, .int .i64 s, .slice Ap np cp, .int .i64 f] 37)
  have H := Lib.hid (h.on hb)
  have HB := Lib.hid hb
  have hl2 : al.length ≤ 1000000 := by omega
  have HHQ := Lib.hid (Head_q H.out)
  clear h hb hby _hby
  obtain ⟨m, hm⟩ : ∃ m, m = al.length := ⟨_, rfl⟩
  rw [← hm] at HHQ
  have HM := Lib.hid hm
  have hm2 : m ≤ 100000 := by omega
  clear hm
  have hway : last = false ∨ (last = true ∧ x1 < 0) ∨ (last = true ∧ ¬ x1 < 0 ∧ 1000 < x1) ∨ (last = true ∧ 0 ≤ x1 ∧ x1 ≤ 1000) := by
    cases last
    · exact .inl rfl
    · refine .inr ?_
      by_cases hx : x1 < 0
      · exact .inl ⟨rfl, hx⟩
      · by_cases hx2 : 1000 < x1
        · exact .inr (.inl ⟨rfl, hx, hx2⟩)
        · exact .inr (.inr ⟨rfl, by omega, by omega⟩)
  rcases hway with rfl | ⟨rfl, hx⟩ | ⟨rfl, hx, hx2⟩ | ⟨rfl, hx, hx2⟩
  · by_cases hth : there al x1
    rotate_left
    · have HTH := Lib.hid hth
      go_enter Try.func17, Try.ntmps17
      go_wp2_with fail
      refine (Back_none_p H.out hl2 x1 HTH.out).mono ?_
      rintro e w3 ⟨rfl, hh⟩
      replace H := Lib.hid hh
      clear hh
      go_wp2_with fail
      refine (Back_none_q H.out hl2 x1 HTH.out).mono ?_
      rintro e w4 ⟨rfl, hw⟩
      subst w4
      go_wp2
      go_ret
      exact ⟨al, rfl, H.out, by omega, hfr⟩
    obtain ⟨i, hpi⟩ := Int.eq_ofNat_of_zero_le (show 0 ≤ x1 by have := hth.1; omega)
    subst hpi
    have hi : tl al ≤ i := by have := hth.1; omega
    obtain ⟨x, hx'⟩ : ∃ x, al[i]? = some x := ⟨_, List.getElem?_eq_getElem (by have := hth.2; omega)⟩
    have HX := Lib.hid hx'
    clear hx' hth
    by_cases hq : x.2 = 1
    · have HQ := Lib.hid hq
      clear hq
      go_enter Try.func17, Try.ntmps17
      go_wp2_with fail
      refine (Back_ok_p H.out hl2 i x hi HX.out HQ.out).mono ?_
      rintro e w3 ⟨rfl, hh⟩
      replace H := Lib.hid hh
      clear hh
      go_wp2_with fail
      refine (Back_ok_q H.out hl2 i x hi HX.out HQ.out).mono ?_
      rintro e w4 ⟨rfl, hh⟩
      replace H := Lib.hid hh
      clear hh
      go_wp2
      go_ret
      exact ⟨al.modify i (out 0), rfl, H.out, by rw [List.length_modify]; omega, by rw [List.length_modify, tl_back al i hi]; exact hfr⟩
    go_enter Try.func17, Try.ntmps17
    go_wp2_with fail
    refine (Back_state_p H.out hl2 i x hi HX.out hq).mono ?_
    rintro e w3 ⟨rfl, hh⟩
    replace H := Lib.hid hh
    clear hh
    go_wp2_with fail
    refine (Back_state_q H.out hl2 i x hi HX.out hq).mono ?_
    rintro e w4 ⟨rfl, hw⟩
    subst w4
    go_wp2
    go_ret
    exact ⟨al, rfl, H.out, by omega, hfr⟩
  · have hth : ¬ there al x1 := fun hth => by have := hth.1; omega
    have HTH := Lib.hid hth
    go_enter Try.func17, Try.ntmps17
    go_wp2_with fail
    refine (Back_none_p H.out hl2 x1 HTH.out).mono ?_
    rintro e w3 ⟨rfl, hh⟩
    replace H := Lib.hid hh
    clear hh
    go_wp2_with fail
    refine (Back_none_q H.out hl2 x1 HTH.out).mono ?_
    rintro e w4 ⟨rfl, hw⟩
    subst w4
    go_wp2
    go_ret
    exact ⟨al, rfl, H.out, by omega, hfr⟩
  · by_cases hth : there al x1
    rotate_left
    · have HTH := Lib.hid hth
      go_enter Try.func17, Try.ntmps17
      go_wp2_with fail
      refine (Back_none_p H.out hl2 x1 HTH.out).mono ?_
      rintro e w3 ⟨rfl, hh⟩
      replace H := Lib.hid hh
      clear hh
      go_wp2_with fail
      refine (Back_none_q H.out hl2 x1 HTH.out).mono ?_
      rintro e w4 ⟨rfl, hw⟩
      subst w4
      go_wp2
      go_ret
      exact ⟨al, rfl, H.out, by omega, hfr⟩
    obtain ⟨i, hpi⟩ := Int.eq_ofNat_of_zero_le (show 0 ≤ x1 by have := hth.1; omega)
    subst hpi
    have hi : tl al ≤ i := by have := hth.1; omega
    obtain ⟨x, hx'⟩ : ∃ x, al[i]? = some x := ⟨_, List.getElem?_eq_getElem (by have := hth.2; omega)⟩
    have HX := Lib.hid hx'
    clear hx' hth
    by_cases hq : x.2 = 1
    · have HQ := Lib.hid hq
      clear hq
      go_enter Try.func17, Try.ntmps17
      go_wp2_with fail
      refine (Back_ok_p H.out hl2 i x hi HX.out HQ.out).mono ?_
      rintro e w3 ⟨rfl, hh⟩
      replace H := Lib.hid hh
      clear hh
      go_wp2_with fail
      refine (Back_ok_q H.out hl2 i x hi HX.out HQ.out).mono ?_
      rintro e w4 ⟨rfl, hh⟩
      replace H := Lib.hid hh
      clear hh
      go_wp2
      go_ret
      exact ⟨al.modify i (out 0), rfl, H.out, by rw [List.length_modify]; omega, by rw [List.length_modify, tl_back al i hi]; exact hfr⟩
    go_enter Try.func17, Try.ntmps17
    go_wp2_with fail
    refine (Back_state_p H.out hl2 i x hi HX.out hq).mono ?_
    rintro e w3 ⟨rfl, hh⟩
    replace H := Lib.hid hh
    clear hh
    go_wp2_with fail
    refine (Back_state_q H.out hl2 i x hi HX.out hq).mono ?_
    rintro e w4 ⟨rfl, hw⟩
    subst w4
    go_wp2
    go_ret
    exact ⟨al, rfl, H.out, by omega, hfr⟩
  · obtain ⟨ps, hps⟩ : ∃ ps, (m : Int) - 1 - x1 = ps := ⟨_, rfl⟩
    by_cases hth : there al ps
    rotate_left
    · have HTH := Lib.hid hth
      go_enter Try.func17, Try.ntmps17
      go_wp2_with fail
      refine HHQ.out.mono ?_
      rintro e w2 ⟨rfl, hw⟩
      subst w2
      go_wp2_with fail
      refine (Back_none_p H.out hl2 ps HTH.out).mono ?_
      rintro e w3 ⟨rfl, hh⟩
      replace H := Lib.hid hh
      clear hh
      go_wp2_with fail
      refine (Back_none_q H.out hl2 ps HTH.out).mono ?_
      rintro e w4 ⟨rfl, hw⟩
      subst w4
      go_wp2
      go_ret
      exact ⟨al, rfl, H.out, by omega, hfr⟩
    obtain ⟨i, hpi⟩ := Int.eq_ofNat_of_zero_le (show 0 ≤ ps by have := hth.1; omega)
    subst hpi
    have hi : tl al ≤ i := by have := hth.1; omega
    obtain ⟨x, hx'⟩ : ∃ x, al[i]? = some x := ⟨_, List.getElem?_eq_getElem (by have := hth.2; omega)⟩
    have HX := Lib.hid hx'
    clear hx' hth
    by_cases hq : x.2 = 1
    · have HQ := Lib.hid hq
      clear hq
      go_enter Try.func17, Try.ntmps17
      go_wp2_with fail
      refine HHQ.out.mono ?_
      rintro e w2 ⟨rfl, hw⟩
      subst w2
      go_wp2_with fail
      refine (Back_ok_p H.out hl2 i x hi HX.out HQ.out).mono ?_
      rintro e w3 ⟨rfl, hh⟩
      replace H := Lib.hid hh
      clear hh
      go_wp2_with fail
      refine (Back_ok_q H.out hl2 i x hi HX.out HQ.out).mono ?_
      rintro e w4 ⟨rfl, hh⟩
      replace H := Lib.hid hh
      clear hh
      go_wp2
      go_ret
      exact ⟨al.modify i (out 0), rfl, H.out, by rw [List.length_modify]; omega, by rw [List.length_modify, tl_back al i hi]; exact hfr⟩
    go_enter Try.func17, Try.ntmps17
    go_wp2_with fail
    refine HHQ.out.mono ?_
    rintro e w2 ⟨rfl, hw⟩
    subst w2
    go_wp2_with fail
    refine (Back_state_p H.out hl2 i x hi HX.out hq).mono ?_
    rintro e w3 ⟨rfl, hh⟩
    replace H := Lib.hid hh
    clear hh
    go_wp2_with fail
    refine (Back_state_q H.out hl2 i x hi HX.out hq).mono ?_
    rintro e w4 ⟨rfl, hw⟩
    subst w4
    go_wp2
    go_ret
    exact ⟨al, rfl, H.out, by omega, hfr⟩

end Go.Proofs.Ytecmmihobojjpaa.RingLaw
