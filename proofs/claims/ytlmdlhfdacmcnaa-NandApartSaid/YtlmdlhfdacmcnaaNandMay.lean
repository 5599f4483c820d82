/-
  What tells, in package nand, whether a page may be programmed.
-/
import Derived.Test.YtlmdlhfdacmcnaaNandFills
namespace Go.Proofs.Ytlmdlhfdacmcnaa.NandPkg
open Go.RowKit Nand
set_option maxRecDepth 4000

section
variable {G : Shape} {w : World} {P : Pl} {st : St} {D : Nat → Prop}

/-- What came in: data and what stands beside, in blocks of D. -/
structure Came (w : World) (D : Nat → Prop) (A : Option Addr) (n : Nat) (A2 : Option Addr) (n2 : Nat) (dat oob : List (List UInt8)) : Prop where
  few : n ≤ 100
  few2 : n2 ≤ 100
  dat : Lies w D A n dat
  oob : Lies w D A2 n2 oob
  lt : ∀ b, D b → b < w.heap.size

theorem Came.below {w' : World} {A A2 : Option Addr} {n n2 : Nat} {dat oob : List (List UInt8)} (h : Came w D A n A2 n2 dat oob) (hb : Below w.heap.size w w') : Came w' D A n A2 n2 dat oob :=
  ⟨h.few, h.few2, h.dat.keep (fun _ h => h) (fun b hd => hb.block b (h.lt b hd)), h.oob.keep (fun _ h => h) (fun b hd => hb.block b (h.lt b hd)), fun b hd => Nat.lt_of_lt_of_le (h.lt b hd) hb.size⟩

theorem Came.turn {w' : World} {O O' : Nat → Prop} {A A2 : Option Addr} {n n2 : Nat} {dat oob : List (List UInt8)} (h : Came w D A n A2 n2 dat oob) (ht : Turn O O' w w') (hd : ∀ b, D b → ¬ O b) : Came w' D A n A2 n2 dat oob :=
  ⟨h.few, h.few2, h.dat.keep (fun _ h => h) (fun b hb => ht.block b (h.lt b hb) (hd b hb)), h.oob.keep (fun _ h => h) (fun b hb => ht.block b (h.lt b hb) (hd b hb)), fun b hb => Nat.lt_of_lt_of_le (h.lt b hb) ht.size⟩

theorem may_none (hG : G.Ok) (h : Dev G w P st) (u b g : Int) (A A2 : Option Addr) (n n2 c c2 : Nat) (hh : ¬ has G u b) :
    Calls Try.prog 49 #[ptr P.g, .int .i64 u, .int .i64 b, .int .i64 g, .slice A n c, .slice A2 n2 c2] w fun e w' => e = .returned (.int .i64 1) ∧ Below w.heap.size w w' := by
  have HC := Lib.hid (block_no hG h u b hh)
  clear h
  go_enter Try.func49, Try.ntmps49
  go_wp2_with fail
  refine HC.out.mono ?_
  rintro e w2 ⟨rfl, hb⟩
  have HB := Lib.hid hb
  clear hb
  go_wp2
  go_ret
  exact ⟨rfl, HB.out⟩

theorem may_page (hG : G.Ok) (h : Dev G w P st) (u b g : Int) (A A2 : Option Addr) (n n2 c c2 : Nat) (hh : has G u b) (hg : ¬ (0 ≤ g ∧ g < G.p)) :
    Calls Try.prog 49 #[ptr P.g, .int .i64 u, .int .i64 b, .int .i64 g, .slice A n c, .slice A2 n2 c2] w fun e w' => e = .returned (.int .i64 1) ∧ Below w.heap.size w w' := by
  have HC := Lib.hid (block_ok hG h u b hh)
  have HN := Lib.hid (below_no g G.p hg)
  have H := Lib.hid h
  generalize blk G u b = j at HC
  clear h hg
  go_enter Try.func49, Try.ntmps49
  go_wp2_with fail
  refine HC.out.mono ?_
  rintro e w2 ⟨rfl, hb⟩
  have HB := Lib.hid hb
  have h4 := (H.out.below hb).cells.2.2.2.2.1
  clear hb
  go_wp2_with fail
  refine (HN.out w2).mono ?_
  rintro e w3 ⟨rfl, rfl⟩
  go_wp2
  go_ret
  exact ⟨rfl, HB.out⟩

theorem may_any (hG : G.Ok) (h : Dev G w P st) (u b g : Int) (A A2 : Option Addr) (n n2 c c2 : Nat) (dat oob : List (List UInt8)) (hc : Came w D A n A2 n2 dat oob) :
    Calls Try.prog 49 #[ptr P.g, .int .i64 u, .int .i64 b, .int .i64 g, .slice A n c, .slice A2 n2 c2] w fun e w' => e = .returned (.int .i64 (st.may G u b g dat oob)) ∧ Below w.heap.size w w' := by
  by_cases hh : has G u b
  rotate_left
  · have e : st.may G u b g dat oob = 1 := by unfold St.may mayBe; rw [if_pos (fun h => hh h.1)]
    rw [e]
    exact may_none hG h u b g A A2 n n2 c c2 hh
  by_cases hg : 0 ≤ g ∧ g < G.p
  rotate_left
  · have e : st.may G u b g dat oob = 1 := by unfold St.may mayBe; rw [if_pos (fun h => hg ⟨h.2.1, h.2.2.1⟩)]
    rw [e]
    exact may_page hG h u b g A A2 n n2 c c2 hh hg
  have HC := Lib.hid (block_ok hG h u b hh)
  have HN := Lib.hid (below_yes g G.p hg.1 hg.2)
  have HT := Lib.hid (fun w (hd : Dev G w P st) => hd.three hG hh)
  have H := Lib.hid h
  have HF1 := Lib.hid (fun w (hd : Dev G w P st) (hc : Came w D A n A2 n2 dat oob) => fills_any hd A n c dat 16 hc.few hc.dat hc.lt)
  have HF2 := Lib.hid (fun w (hd : Dev G w P st) (hc : Came w D A n A2 n2 dat oob) => fills_any hd A2 n2 c2 oob 17 hc.few2 hc.oob hc.lt)
  have HCA := Lib.hid hc
  have hlt := h.lt _ P.own_b
  by_cases h1 : fit dat G.s 16
  rotate_left
  · have e : st.may G u b g dat oob = 1 := by unfold St.may mayBe; rw [if_pos (fun h => h1 h.2.2.2.1)]
    rw [e]
    rw [decide_eq_false h1] at HF1
    generalize blk G u b = j at HC HT
    clear h hc hg h1 hh e
    go_enter Try.func49, Try.ntmps49
    go_wp2_with fail
    refine HC.out.mono ?_
    rintro e w2 ⟨rfl, hb⟩
    have HB := Lib.hid hb
    have h4 := (H.out.below hb).cells.2.2.2.2.1
    have HF := Lib.hid (HF1.out w2 (H.out.below hb) (HCA.out.below hb))
    clear hb
    go_wp2_with fail
    refine (HN.out w2).mono ?_
    rintro e w3 ⟨rfl, rfl⟩
    go_wp2_with fail
    refine HF.out.mono ?_
    rintro e w4 ⟨rfl, hb⟩
    replace HB := Lib.hid (below_then HB.out hb)
    clear hb
    go_wp2
    go_ret
    exact ⟨rfl, HB.out⟩
  by_cases h2 : fit oob G.s 17
  rotate_left
  · have e : st.may G u b g dat oob = 1 := by unfold St.may mayBe; rw [if_pos (fun h => h2 h.2.2.2.2)]
    rw [e]
    rw [decide_eq_true h1] at HF1
    rw [decide_eq_false h2] at HF2
    generalize blk G u b = j at HC HT
    clear h hc hg h1 hh h2 e
    go_enter Try.func49, Try.ntmps49
    go_wp2_with fail
    refine HC.out.mono ?_
    rintro e w2 ⟨rfl, hb⟩
    have HB := Lib.hid hb
    have h4 := (H.out.below hb).cells.2.2.2.2.1
    have HF := Lib.hid (HF1.out w2 (H.out.below hb) (HCA.out.below hb))
    clear hb
    go_wp2_with fail
    refine (HN.out w2).mono ?_
    rintro e w3 ⟨rfl, rfl⟩
    go_wp2_with fail
    refine HF.out.mono ?_
    rintro e w4 ⟨rfl, hb⟩
    replace HB := Lib.hid (below_then HB.out hb)
    replace HF := Lib.hid (HF2.out w4 (H.out.below HB.out) (HCA.out.below HB.out))
    clear hb
    go_wp2_with fail
    refine HF.out.mono ?_
    rintro e w5 ⟨rfl, hb⟩
    replace HB := Lib.hid (below_then HB.out hb)
    clear hb
    go_wp2
    go_ret
    exact ⟨rfl, HB.out⟩
  have hm : mayBe G u b g dat oob := ⟨hh, hg.1, hg.2, h1, h2⟩
  have e : st.may G u b g dat oob = if st.rt (blk G u b) = true then 10 else if g ≠ st.nx (blk G u b) then 7 else 0 := by unfold St.may; rw [if_neg (fun h => h hm)]
  rw [e]
  rw [decide_eq_true h1] at HF1
  rw [decide_eq_true h2] at HF2
  generalize blk G u b = j at HC HT ⊢
  generalize st.nx j = x at HT ⊢
  generalize st.wr j = y at HT ⊢
  generalize st.rt j = z at HT ⊢
  clear h hc hg h1 hh h2 e hm
  cases z with
  | true =>
    rw [if_pos rfl]
    go_enter Try.func49, Try.ntmps49
    go_wp2_with fail
    refine HC.out.mono ?_
    rintro e w2 ⟨rfl, hb⟩
    have HB := Lib.hid hb
    have h4 := (H.out.below hb).cells.2.2.2.2.1
    have HF := Lib.hid (HF1.out w2 (H.out.below hb) (HCA.out.below hb))
    clear hb
    go_wp2_with fail
    refine (HN.out w2).mono ?_
    rintro e w3 ⟨rfl, rfl⟩
    go_wp2_with fail
    refine HF.out.mono ?_
    rintro e w4 ⟨rfl, hb⟩
    replace HB := Lib.hid (below_then HB.out hb)
    replace HF := Lib.hid (HF2.out w4 (H.out.below HB.out) (HCA.out.below HB.out))
    clear hb
    go_wp2_with fail
    refine HF.out.mono ?_
    rintro e w5 ⟨rfl, hb⟩
    replace HB := Lib.hid (below_then HB.out hb)
    obtain ⟨t0, t1, t2⟩ := HT.out w5 (H.out.below HB.out)
    clear hb
    go_wp2
    go_ret
    exact ⟨rfl, HB.out⟩
  | false =>
    rw [if_neg (by simp)]
    by_cases hx : g = x
    · rw [if_neg (by simpa using hx)]
      have hbx : (g != x) = false := by simpa using hx
      clear hx
      go_enter Try.func49, Try.ntmps49
      go_wp2_with fail
      refine HC.out.mono ?_
      rintro e w2 ⟨rfl, hb⟩
      have HB := Lib.hid hb
      have h4 := (H.out.below hb).cells.2.2.2.2.1
      have HF := Lib.hid (HF1.out w2 (H.out.below hb) (HCA.out.below hb))
      clear hb
      go_wp2_with fail
      refine (HN.out w2).mono ?_
      rintro e w3 ⟨rfl, rfl⟩
      go_wp2_with fail
      refine HF.out.mono ?_
      rintro e w4 ⟨rfl, hb⟩
      replace HB := Lib.hid (below_then HB.out hb)
      replace HF := Lib.hid (HF2.out w4 (H.out.below HB.out) (HCA.out.below HB.out))
      clear hb
      go_wp2_with fail
      refine HF.out.mono ?_
      rintro e w5 ⟨rfl, hb⟩
      replace HB := Lib.hid (below_then HB.out hb)
      obtain ⟨t0, t1, t2⟩ := HT.out w5 (H.out.below HB.out)
      clear hb
      go_wp2
      go_ret
      exact ⟨rfl, HB.out⟩
    · rw [if_pos hx]
      have hbx : (g != x) = true := by simpa using hx
      clear hx
      go_enter Try.func49, Try.ntmps49
      go_wp2_with fail
      refine HC.out.mono ?_
      rintro e w2 ⟨rfl, hb⟩
      have HB := Lib.hid hb
      have h4 := (H.out.below hb).cells.2.2.2.2.1
      have HF := Lib.hid (HF1.out w2 (H.out.below hb) (HCA.out.below hb))
      clear hb
      go_wp2_with fail
      refine (HN.out w2).mono ?_
      rintro e w3 ⟨rfl, rfl⟩
      go_wp2_with fail
      refine HF.out.mono ?_
      rintro e w4 ⟨rfl, hb⟩
      replace HB := Lib.hid (below_then HB.out hb)
      replace HF := Lib.hid (HF2.out w4 (H.out.below HB.out) (HCA.out.below HB.out))
      clear hb
      go_wp2_with fail
      refine HF.out.mono ?_
      rintro e w5 ⟨rfl, hb⟩
      replace HB := Lib.hid (below_then HB.out hb)
      obtain ⟨t0, t1, t2⟩ := HT.out w5 (H.out.below HB.out)
      clear hb
      go_wp2
      go_ret
      exact ⟨rfl, HB.out⟩
end

end Go.Proofs.Ytlmdlhfdacmcnaa.NandPkg
