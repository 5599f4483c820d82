/-
  What the small functions of the document's answer for layer 8 do: at, sized, wrong, Retired, Next, Wear, Retire.
-/
import Derived.Test.YtlmdlhfdacmcnaaNandRef
namespace Go.Proofs.Ytlmdlhfdacmcnaa.NandRef
open Go.RowKit Nand NandPkg
set_option maxRecDepth 4000

section
variable {G : Shape} {w : World} {P : Pl} {st : St}

theorem at_ok (hG : G.Ok) (h : Ref G w P st) (u b : Int) (hh : has G u b) :
    Calls Try.prog 44 #[ptr P.g, .int .i64 u, .int .i64 b] w fun e w' => e = .returned (.int .i64 (blk G u b : Int)) ∧ Below w.heap.size w w' := by
  obtain ⟨⟨h1, h2, h3, h4, h5⟩, _⟩ := h.cells
  have HU := Lib.hid (runits_ok hG w)
  obtain ⟨e1, e2, e3, e4⟩ := blk_lt hG hh
  have H := Lib.hid h
  have hu0 : 0 ≤ u * G.k := Int.mul_nonneg hh.1 (by have := hh.2.2; omega)
  have hu1 : u * G.k < 512 := by have := hh.2.2; omega
  have hw1 : wrap64 (u * G.k) = u * G.k := wrap_is (by omega) (by omega)
  have hw2 : wrap64 (u * G.k + b) = (blk G u b : Int) := by rw [e4]; exact wrap_is (by omega) (by omega)
  have a1 := hh.1
  have a2 := hh.2.1
  have a3 := hh.2.2.1
  have a4 := hh.2.2.2
  generalize blk G u b = j at hw2 ⊢
  obtain ⟨z, hz⟩ : ∃ z, z = u * G.k := ⟨_, rfl⟩
  rw [← hz] at hw2
  replace hw1 : wrap64 (u * G.k) = z := hw1.trans hz.symm
  clear h e1 e2 e3 e4 hu0 hu1 hh hG hz
  go_enter Try.func44, Try.ntmps44
  go_wp2_with fail
  refine HU.out.mono ?_
  rintro e w2 ⟨rfl, hb⟩
  have hd := H.out.below hb
  have HB := Lib.hid hb
  clear h1 h2 h3 h4 h5
  obtain ⟨⟨h1, h2, h3, h4, h5⟩, _⟩ := hd.cells
  clear hb hd
  go_wp2
  go_ret
  exact ⟨by first | rfl | simp [hw1, hw2], HB.out⟩

theorem at_no (hG : G.Ok) (h : Ref G w P st) (u b : Int) (hh : ¬ has G u b) :
    Calls Try.prog 44 #[ptr P.g, .int .i64 u, .int .i64 b] w fun e w' => e = .returned (.int .i64 (-1)) ∧ Below w.heap.size w w' := by
  obtain ⟨⟨h1, h2, h3, h4, h5⟩, _⟩ := h.cells
  have HU := Lib.hid (runits_ok hG w)
  have H := Lib.hid h
  by_cases a1 : u < 0
  · clear h hh hG
    go_enter Try.func44, Try.ntmps44
    go_wp2
    go_ret
    exact ⟨rfl, Below.refl _ _⟩
  have d1 : decide (u < 0) = false := by simp; omega
  by_cases a2 : G.U ≤ u
  · have d2 : decide (G.U ≤ u) = true := by simpa using a2
    clear h hh hG a1 a2
    go_enter Try.func44, Try.ntmps44
    go_wp2_with fail
    refine HU.out.mono ?_
    rintro e w2 ⟨rfl, hb⟩
    have HB := Lib.hid hb
    clear hb
    go_wp2
    go_ret
    exact ⟨rfl, HB.out⟩
  have d2 : decide (G.U ≤ u) = false := by simp; omega
  by_cases a3 : b < 0
  · have d3 : decide (b < 0) = true := by simpa using a3
    clear h hh hG a1 a2 a3
    go_enter Try.func44, Try.ntmps44
    go_wp2_with fail
    refine HU.out.mono ?_
    rintro e w2 ⟨rfl, hb⟩
    have HB := Lib.hid hb
    clear hb
    go_wp2
    go_ret
    exact ⟨rfl, HB.out⟩
  have d3 : decide (b < 0) = false := by simp; omega
  have d4 : decide (G.k ≤ b) = true := by
    simp
    rcases Int.lt_or_le b G.k with h | h
    · exact absurd ⟨by omega, by omega, by omega, h⟩ hh
    · exact h
  clear h hh hG a1 a2 a3
  go_enter Try.func44, Try.ntmps44
  go_wp2_with fail
  refine HU.out.mono ?_
  rintro e w2 ⟨rfl, hb⟩
  have hd := H.out.below hb
  have HB := Lib.hid hb
  clear h1 h2 h3 h4 h5
  obtain ⟨⟨h1, h2, h3, h4, h5⟩, _⟩ := hd.cells
  clear hb hd
  go_wp2
  go_ret
  exact ⟨rfl, HB.out⟩

theorem wrong_any (h : Ref G w P st) (x : Int) : Calls Try.prog 64 #[ptr P.g, .int .i64 x] w fun e w' => e = .returned (.int .i64 x) ∧ Ref G w' P st.refused ∧ Turn P.own P.own w w' := by
  have hc := h.cells.2.2.2.2.2.2.2
  have hf := h.free 11
  have H := Lib.hid h
  clear h
  go_enter Try.func64, Try.ntmps64
  go_wp2
  go_ret
  exact ⟨rfl, H.out.set_wrong _, Turn.of_grown (grown_setCell _ _ _) (own_of P H.out.apart.g (by omega))⟩

theorem blk_cnt (hG : G.Ok) {u b : Int} (hh : has G u b) : blk G u b < cnt G := by
  obtain ⟨e1, e2, e3, e4⟩ := blk_lt hG hh
  unfold cnt
  omega

theorem Retired_any (hG : G.Ok) (h : Ref G w P st) (u b : Int) :
    Calls Try.prog 15 #[ptr P.g, .int .i64 u, .int .i64 b] w fun e w' => e = .returned (.bool (st.retired G u b)) ∧ Below w.heap.size w w' := by
  unfold St.retired
  by_cases hh : has G u b
  · rw [if_pos hh]
    have HC := Lib.hid (at_ok hG h u b hh)
    have hj := blk_cnt hG hh
    have HR := Lib.hid (fun w (hd : Ref G w P st) => hd.rr.cell hj)
    have H := Lib.hid h
    have hji : (blk G u b : Int) < (cnt G : Int) := by omega
    generalize blk G u b = j at HC HR hji ⊢
    clear h hj hh hG
    go_enter Try.func15, Try.ntmps15
    go_wp2_with fail
    refine HC.out.mono ?_
    rintro e w2 ⟨rfl, hb⟩
    have hd := H.out.below hb
    have hc := hd.cells.2.2.2.2.2.1
    have hr := HR.out w2 hd
    have HB := Lib.hid hb
    clear hb hd
    go_wp2
    go_ret
    exact ⟨rfl, HB.out⟩
  · rw [if_neg hh]
    have HC := Lib.hid (at_no hG h u b hh)
    clear h hh hG
    go_enter Try.func15, Try.ntmps15
    go_wp2_with fail
    refine HC.out.mono ?_
    rintro e w2 ⟨rfl, hb⟩
    have HB := Lib.hid hb
    clear hb
    go_wp2
    go_ret
    exact ⟨rfl, HB.out⟩

theorem Next_any (hG : G.Ok) (h : Ref G w P st) (u b : Int) :
    Calls Try.prog 22 #[ptr P.g, .int .i64 u, .int .i64 b] w fun e w' => e = .returned (.int .i64 (st.next G u b)) ∧ Below w.heap.size w w' := by
  unfold St.next
  by_cases hh : has G u b
  · rw [if_pos hh]
    have HC := Lib.hid (at_ok hG h u b hh)
    have hj := blk_cnt hG hh
    have HR := Lib.hid (fun w (hd : Ref G w P st) => hd.rn.cell hj)
    have H := Lib.hid h
    have hji : (blk G u b : Int) < (cnt G : Int) := by omega
    generalize blk G u b = j at HC HR hji ⊢
    clear h hj hh hG
    go_enter Try.func22, Try.ntmps22
    go_wp2_with fail
    refine HC.out.mono ?_
    rintro e w2 ⟨rfl, hb⟩
    have hd := H.out.below hb
    have hc := hd.cells.2.2.2.1
    have hr := HR.out w2 hd
    have HB := Lib.hid hb
    clear hb hd
    go_wp2
    go_ret
    exact ⟨rfl, HB.out⟩
  · rw [if_neg hh]
    have HC := Lib.hid (at_no hG h u b hh)
    clear h hh hG
    go_enter Try.func22, Try.ntmps22
    go_wp2_with fail
    refine HC.out.mono ?_
    rintro e w2 ⟨rfl, hb⟩
    have HB := Lib.hid hb
    clear hb
    go_wp2
    go_ret
    exact ⟨rfl, HB.out⟩

theorem Wear_any (hG : G.Ok) (h : Ref G w P st) (u b : Int) :
    Calls Try.prog 23 #[ptr P.g, .int .i64 u, .int .i64 b] w fun e w' => e = .returned (.int .i64 (st.wear G u b)) ∧ Below w.heap.size w w' := by
  unfold St.wear
  by_cases hh : has G u b
  · rw [if_pos hh]
    have HC := Lib.hid (at_ok hG h u b hh)
    have hj := blk_cnt hG hh
    have HR := Lib.hid (fun w (hd : Ref G w P st) => hd.rw.cell hj)
    have H := Lib.hid h
    have hji : (blk G u b : Int) < (cnt G : Int) := by omega
    generalize blk G u b = j at HC HR hji ⊢
    clear h hj hh hG
    go_enter Try.func23, Try.ntmps23
    go_wp2_with fail
    refine HC.out.mono ?_
    rintro e w2 ⟨rfl, hb⟩
    have hd := H.out.below hb
    have hc := hd.cells.2.2.2.2.1
    have hr := HR.out w2 hd
    have HB := Lib.hid hb
    clear hb hd
    go_wp2
    go_ret
    exact ⟨rfl, HB.out⟩
  · rw [if_neg hh]
    have HC := Lib.hid (at_no hG h u b hh)
    clear h hh hG
    go_enter Try.func23, Try.ntmps23
    go_wp2_with fail
    refine HC.out.mono ?_
    rintro e w2 ⟨rfl, hb⟩
    have HB := Lib.hid hb
    clear hb
    go_wp2
    go_ret
    exact ⟨rfl, HB.out⟩

theorem Retire_any (hG : G.Ok) (h : Ref G w P st) (u b : Int) :
    Calls Try.prog 48 #[ptr P.g, .int .i64 u, .int .i64 b] w fun e w' => e = .returned (.int .i64 (st.retire G u b).1) ∧ Ref G w' P (st.retire G u b).2 ∧ Turn P.own P.own w w' := by
  unfold St.retire
  have hoffc := h.cells.2.2.2.2.2.2.1
  by_cases hoff : st.off = true
  · rw [if_pos hoff]
    rw [hoff] at hoffc
    have H := Lib.hid h
    clear h hoff
    go_enter Try.func48, Try.ntmps48
    go_wp2
    go_ret
    exact ⟨rfl, H.out, Turn.refl _ _⟩
  · rw [if_neg hoff]
    replace hoff : st.off = false := by simpa using hoff
    rw [hoff] at hoffc
    have H := Lib.hid h
    by_cases hh : has G u b
    · rw [if_neg (fun h => h hh)]
      have HC := Lib.hid (at_ok hG h u b hh)
      have hj := blk_cnt hG hh
      have HR := Lib.hid (fun w (hd : Ref G w P st) => hd.rr.cell hj)
      have hji : (blk G u b : Int) < (cnt G : Int) := by omega
      generalize blk G u b = j at HC HR hji ⊢
      clear h hj hh hG hoff
      go_enter Try.func48, Try.ntmps48
      go_wp2_with fail
      refine HC.out.mono ?_
      rintro e w2 ⟨rfl, hb⟩
      have hd := H.out.below hb
      have hc := hd.cells.2.2.2.2.2.1
      have hr := HR.out w2 hd
      have hf := hd.rr.frozen j
      have HB := Lib.hid hb
      have HD := Lib.hid hd
      clear hb hd
      go_wp2
      go_ret
      exact ⟨rfl, HD.out.set_rt j true, (Turn.of_below P.own HB.out).trans (Turn.of_grown (grown_setCell _ _ _) (own_of P H.out.apart.r (by omega)))⟩
    · rw [if_pos hh]
      have HC := Lib.hid (at_no hG h u b hh)
      clear h hh hG hoff
      go_enter Try.func48, Try.ntmps48
      go_wp2_with fail
      refine HC.out.mono ?_
      rintro e w2 ⟨rfl, hb⟩
      have HW := Lib.hid (wrong_any (H.out.below hb) 1)
      have HB := Lib.hid hb
      clear hb
      go_wp2_with fail
      refine HW.out.mono ?_
      rintro e w3 ⟨rfl, hd, ht⟩
      have HD := Lib.hid hd
      have HT := Lib.hid ((Turn.of_below P.own HB.out).trans ht)
      clear hd ht
      go_wp2
      go_ret
      exact ⟨rfl, HD.out, HT.out⟩

theorem sized_any {D : Nat → Prop} (A : Option Addr) (n c : Nat) (ls : List (List UInt8)) (s : Int) (z : Nat) (hn : n ≤ 100) (hl : Lies w D A n ls) :
    Calls Try.prog 63 #[.slice A n c, .int .i64 s, .int .i64 (z : Int)] w fun e w' => e = .returned (.bool (decide (fit ls s z))) ∧ w' = w := by
  have hls := hl.1
  by_cases hs : (n : Int) = s
  · have hbs : ((n : Int) != s) = false := by simpa using hs
    have hfit : decide (fit ls s z) = decide (∀ x ∈ ls, x.length = z) := by
      rw [Bool.eq_iff_iff]
      simp [fit, hls, hs]
    rw [hfit]
    clear hs hfit
    go_enter Try.func63, Try.ntmps63
    go_wp2
    go_loop [7] (fun i => ∃ k : Nat, k ≤ n ∧ i = .int .i64 k ∧ ∀ j (h : j < ls.length), j < k → (ls[j]).length = z) (fun i => n - (intOf i).toNat)
    case atStart => exact ⟨0, by omega, rfl, fun j _ h => by omega⟩
    case round =>
      obtain ⟨k, hk, rfl, hall⟩ := hrel
      have HALL := Lib.hid hall
      clear hall
      by_cases hlt : k < n
      · obtain ⟨b, off, A', n', c', xs, rfl, _, hc, hn', hx, hlx⟩ := hl.at_ hlt
        have HX := Lib.hid hx
        have HLS := Lib.hid hlx
        have HL := Lib.hid hl
        have HLL := Lib.hid hls
        clear hx hl hlx hls
        by_cases he : n' = z
        · have hb : ((n' : Int) != (z : Int)) = false := by simp [he]
          have HE := Lib.hid he
          clear he
          go_wp2
          go_round
          case rel =>
            refine ⟨k + 1, by omega, by go_num, fun j hj hjk => ?_⟩
            rcases Nat.lt_or_ge j k with h | h
            · exact HALL.out j hj h
            · obtain rfl : j = k := by omega
              obtain ⟨h1, h2⟩ := List.getElem?_eq_some_iff.1 HLS.out
              rw [h2, HX.out.1]
              exact HE.out
          case measure => simp [intOf]; omega
        · have hb : ((n' : Int) != (z : Int)) = true := by simp; omega
          have HE := Lib.hid he
          clear he
          go_wp2
          go_ret
          refine ⟨?_, rfl⟩
          have hno : ¬ (∀ x ∈ ls, x.length = z) := fun h => HE.out ((HX.out.1).symm.trans (h xs (List.mem_of_getElem? HLS.out)))
          rw [decide_eq_false hno]
          rfl
      · obtain rfl : k = n := by omega
        have HL := Lib.hid hl
        have HLL := Lib.hid hls
        clear hl hls
        go_wp2
        go_ret
        refine ⟨?_, rfl⟩
        have hall : ∀ x ∈ ls, x.length = z := fun x hx => by
          obtain ⟨j, hj, rfl⟩ := List.getElem_of_mem hx
          exact HALL.out j hj (by rw [← HLL.out]; exact hj)
        rw [decide_eq_true hall]
        rfl
  · have hbs : ((n : Int) != s) = true := by simpa using hs
    have hfit : decide (fit ls s z) = false := decide_eq_false (fun h => hs (by rw [← hls]; exact h.1))
    rw [hfit]
    clear hs hfit hl hls
    go_enter Try.func63, Try.ntmps63
    go_wp2
    go_ret
    exact ⟨rfl, rfl⟩
end

end Go.Proofs.Ytlmdlhfdacmcnaa.NandRef
