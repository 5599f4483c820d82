/-
  What the document's answer for layer 8 does: Program.
-/
import Derived.Test.YtlmdlhfdacmcnaaNandRefG
namespace Go.Proofs.Ytlmdlhfdacmcnaa.NandRef
open Go.RowKit Nand NandPkg
set_option maxRecDepth 4000

section
variable {G : Shape} {w : World} {P : Pl} {st : St} {D : Nat → Prop}

theorem prog_off (h : Ref G w P st) (hoff : st.off = true) (u b g : Int) (V V2 : Value) :
    Calls Try.prog 45 #[ptr P.g, .int .i64 u, .int .i64 b, .int .i64 g, V, V2] w fun e w' => e = .returned (.int .i64 5) ∧ w' = w := by
  have hc := h.cells.2.2.2.2.2.2.1
  rw [hoff] at hc
  clear h hoff
  go_enter Try.func45, Try.ntmps45
  go_wp2
  go_ret
  exact ⟨rfl, rfl⟩

theorem prog_e1 (hG : G.Ok) (h : Ref G w P st) (hoff : st.off = false) (u b g : Int) (A A2 : Option Addr) (n n2 c c2 : Nat) (dat oob : List (List UInt8)) (hca : Came w D A n A2 n2 dat oob) (hh : ¬ has G u b) :
    Calls Try.prog 45 #[ptr P.g, .int .i64 u, .int .i64 b, .int .i64 g, .slice A n c, .slice A2 n2 c2] w fun e w' => e = .returned (.int .i64 1) ∧ Ref G w' P st.refused ∧ Turn P.own P.own w w' := by
  have hc := h.cells.2.2.2.2.2.2.1
  rw [hoff] at hc
  have H := Lib.hid h
  have HCA := Lib.hid hca
  have HC := Lib.hid (at_no hG h u b hh)
  clear h hoff hh hG hca
  go_enter Try.func45, Try.ntmps45
  go_wp2_with fail
  refine HC.out.mono ?_
  rintro e w2 ⟨rfl, hb⟩
  have HB := Lib.hid hb
  obtain ⟨⟨h1, h2, h3, h4, h5⟩, _⟩ := (H.out.below hb).cells
  clear hb
  have HW := Lib.hid (wrong_any (H.out.below HB.out) 1)
  go_wp2_with fail
  refine HW.out.mono ?_
  rintro e w9 ⟨rfl, hd, ht⟩
  have HD := Lib.hid hd
  have HT := Lib.hid ((Turn.of_below P.own HB.out).trans ht)
  clear hd ht
  go_wp2
  go_ret
  exact ⟨rfl, HD.out, HT.out⟩

theorem prog_e2 (hG : G.Ok) (h : Ref G w P st) (hoff : st.off = false) (u b g : Int) (A A2 : Option Addr) (n n2 c c2 : Nat) (dat oob : List (List UInt8)) (hca : Came w D A n A2 n2 dat oob) (hh : has G u b) (hg : g < 0) :
    Calls Try.prog 45 #[ptr P.g, .int .i64 u, .int .i64 b, .int .i64 g, .slice A n c, .slice A2 n2 c2] w fun e w' => e = .returned (.int .i64 1) ∧ Ref G w' P st.refused ∧ Turn P.own P.own w w' := by
  have hc := h.cells.2.2.2.2.2.2.1
  rw [hoff] at hc
  have H := Lib.hid h
  have HCA := Lib.hid hca
  have HC := Lib.hid (at_ok hG h u b hh)
  have d1 : decide (g < 0) = true := by simpa using hg
  generalize blk G u b = j at HC
  clear h hoff hh hG hca hg
  go_enter Try.func45, Try.ntmps45
  go_wp2_with fail
  refine HC.out.mono ?_
  rintro e w2 ⟨rfl, hb⟩
  have HB := Lib.hid hb
  obtain ⟨⟨h1, h2, h3, h4, h5⟩, _⟩ := (H.out.below hb).cells
  clear hb
  have HW := Lib.hid (wrong_any (H.out.below HB.out) 1)
  go_wp2_with fail
  refine HW.out.mono ?_
  rintro e w9 ⟨rfl, hd, ht⟩
  have HD := Lib.hid hd
  have HT := Lib.hid ((Turn.of_below P.own HB.out).trans ht)
  clear hd ht
  go_wp2
  go_ret
  exact ⟨rfl, HD.out, HT.out⟩

theorem prog_e3 (hG : G.Ok) (h : Ref G w P st) (hoff : st.off = false) (u b g : Int) (A A2 : Option Addr) (n n2 c c2 : Nat) (dat oob : List (List UInt8)) (hca : Came w D A n A2 n2 dat oob) (hh : has G u b) (hg0 : 0 ≤ g) (hg : G.p ≤ g) :
    Calls Try.prog 45 #[ptr P.g, .int .i64 u, .int .i64 b, .int .i64 g, .slice A n c, .slice A2 n2 c2] w fun e w' => e = .returned (.int .i64 1) ∧ Ref G w' P st.refused ∧ Turn P.own P.own w w' := by
  have hc := h.cells.2.2.2.2.2.2.1
  rw [hoff] at hc
  have H := Lib.hid h
  have HCA := Lib.hid hca
  have HC := Lib.hid (at_ok hG h u b hh)
  have d1 : decide (g < 0) = false := by simp; omega
  have d2 : decide (G.p ≤ g) = true := by simpa using hg
  generalize blk G u b = j at HC
  clear h hoff hh hG hca hg hg0
  go_enter Try.func45, Try.ntmps45
  go_wp2_with fail
  refine HC.out.mono ?_
  rintro e w2 ⟨rfl, hb⟩
  have HB := Lib.hid hb
  obtain ⟨⟨h1, h2, h3, h4, h5⟩, _⟩ := (H.out.below hb).cells
  clear hb
  have HW := Lib.hid (wrong_any (H.out.below HB.out) 1)
  go_wp2_with fail
  refine HW.out.mono ?_
  rintro e w9 ⟨rfl, hd, ht⟩
  have HD := Lib.hid hd
  have HT := Lib.hid ((Turn.of_below P.own HB.out).trans ht)
  clear hd ht
  go_wp2
  go_ret
  exact ⟨rfl, HD.out, HT.out⟩

theorem prog_e4 (hG : G.Ok) (h : Ref G w P st) (hoff : st.off = false) (u b g : Int) (A A2 : Option Addr) (n n2 c c2 : Nat) (dat oob : List (List UInt8)) (hca : Came w D A n A2 n2 dat oob) (hh : has G u b) (hg0 : 0 ≤ g) (hg : g < G.p) (hf1 : ¬ fit dat G.s 16) :
    Calls Try.prog 45 #[ptr P.g, .int .i64 u, .int .i64 b, .int .i64 g, .slice A n c, .slice A2 n2 c2] w fun e w' => e = .returned (.int .i64 1) ∧ Ref G w' P st.refused ∧ Turn P.own P.own w w' := by
  have hc := h.cells.2.2.2.2.2.2.1
  rw [hoff] at hc
  have H := Lib.hid h
  have HCA := Lib.hid hca
  have HC := Lib.hid (at_ok hG h u b hh)
  have d1 : decide (g < 0) = false := by simp; omega
  have d2 : decide (G.p ≤ g) = false := by simp; omega
  have HS1 := Lib.hid (fun (w : World) (hc : Came w D A n A2 n2 dat oob) => sized_any (w := w) A n c dat G.s 16 hc.few hc.dat)
  rw [decide_eq_false hf1] at HS1
  generalize blk G u b = j at HC
  clear h hoff hh hG hca hg hg0 hf1
  go_enter Try.func45, Try.ntmps45
  go_wp2_with fail
  refine HC.out.mono ?_
  rintro e w2 ⟨rfl, hb⟩
  have HB := Lib.hid hb
  obtain ⟨⟨h1, h2, h3, h4, h5⟩, _⟩ := (H.out.below hb).cells
  clear hb
  go_wp2_with fail
  refine (HS1.out _ (HCA.out.below HB.out)).mono ?_
  rintro e w4 ⟨rfl, hw⟩
  subst w4
  have HW := Lib.hid (wrong_any (H.out.below HB.out) 1)
  go_wp2_with fail
  refine HW.out.mono ?_
  rintro e w9 ⟨rfl, hd, ht⟩
  have HD := Lib.hid hd
  have HT := Lib.hid ((Turn.of_below P.own HB.out).trans ht)
  clear hd ht
  go_wp2
  go_ret
  exact ⟨rfl, HD.out, HT.out⟩

theorem prog_e5 (hG : G.Ok) (h : Ref G w P st) (hoff : st.off = false) (u b g : Int) (A A2 : Option Addr) (n n2 c c2 : Nat) (dat oob : List (List UInt8)) (hca : Came w D A n A2 n2 dat oob) (hh : has G u b) (hg0 : 0 ≤ g) (hg : g < G.p) (hf1 : fit dat G.s 16) (hf2 : ¬ fit oob G.s 17) :
    Calls Try.prog 45 #[ptr P.g, .int .i64 u, .int .i64 b, .int .i64 g, .slice A n c, .slice A2 n2 c2] w fun e w' => e = .returned (.int .i64 1) ∧ Ref G w' P st.refused ∧ Turn P.own P.own w w' := by
  have hc := h.cells.2.2.2.2.2.2.1
  rw [hoff] at hc
  have H := Lib.hid h
  have HCA := Lib.hid hca
  have HC := Lib.hid (at_ok hG h u b hh)
  have d1 : decide (g < 0) = false := by simp; omega
  have d2 : decide (G.p ≤ g) = false := by simp; omega
  have HS1 := Lib.hid (fun (w : World) (hc : Came w D A n A2 n2 dat oob) => sized_any (w := w) A n c dat G.s 16 hc.few hc.dat)
  have HS2 := Lib.hid (fun (w : World) (hc : Came w D A n A2 n2 dat oob) => sized_any (w := w) A2 n2 c2 oob G.s 17 hc.few2 hc.oob)
  rw [decide_eq_true hf1] at HS1
  rw [decide_eq_false hf2] at HS2
  generalize blk G u b = j at HC
  clear h hoff hh hG hca hg hg0 hf1 hf2
  go_enter Try.func45, Try.ntmps45
  go_wp2_with fail
  refine HC.out.mono ?_
  rintro e w2 ⟨rfl, hb⟩
  have HB := Lib.hid hb
  obtain ⟨⟨h1, h2, h3, h4, h5⟩, _⟩ := (H.out.below hb).cells
  clear hb
  go_wp2_with fail
  refine (HS1.out _ (HCA.out.below HB.out)).mono ?_
  rintro e w4 ⟨rfl, hw⟩
  subst w4
  go_wp2_with fail
  refine (HS2.out _ (HCA.out.below HB.out)).mono ?_
  rintro e w5 ⟨rfl, hw⟩
  subst w5
  have HW := Lib.hid (wrong_any (H.out.below HB.out) 1)
  go_wp2_with fail
  refine HW.out.mono ?_
  rintro e w9 ⟨rfl, hd, ht⟩
  have HD := Lib.hid hd
  have HT := Lib.hid ((Turn.of_below P.own HB.out).trans ht)
  clear hd ht
  go_wp2
  go_ret
  exact ⟨rfl, HD.out, HT.out⟩

theorem prog_e6 (hG : G.Ok) (h : Ref G w P st) (hoff : st.off = false) (u b g : Int) (A A2 : Option Addr) (n n2 c c2 : Nat) (dat oob : List (List UInt8)) (hca : Came w D A n A2 n2 dat oob) (hm : mayBe G u b g dat oob) (hrt : st.rt (blk G u b) = true) :
    Calls Try.prog 45 #[ptr P.g, .int .i64 u, .int .i64 b, .int .i64 g, .slice A n c, .slice A2 n2 c2] w fun e w' => e = .returned (.int .i64 10) ∧ Ref G w' P st.refused ∧ Turn P.own P.own w w' := by
  have hc := h.cells.2.2.2.2.2.2.1
  rw [hoff] at hc
  have H := Lib.hid h
  have HCA := Lib.hid hca
  obtain ⟨hh, hg0, hg, hf1, hf2⟩ := hm
  have HC := Lib.hid (at_ok hG h u b hh)
  have hj := blk_cnt hG hh
  have HR := Lib.hid (fun w (hd : Ref G w P st) => hd.rr.cell hj)
  rw [hrt] at HR
  have hji : (blk G u b : Int) < (cnt G : Int) := by omega
  have d1 : decide (g < 0) = false := by simp; omega
  have d2 : decide (G.p ≤ g) = false := by simp; omega
  have HS1 := Lib.hid (fun (w : World) (hc : Came w D A n A2 n2 dat oob) => sized_any (w := w) A n c dat G.s 16 hc.few hc.dat)
  have HS2 := Lib.hid (fun (w : World) (hc : Came w D A n A2 n2 dat oob) => sized_any (w := w) A2 n2 c2 oob G.s 17 hc.few2 hc.oob)
  rw [decide_eq_true hf1] at HS1
  rw [decide_eq_true hf2] at HS2
  generalize blk G u b = j at HC HR hji
  clear h hoff hh hG hca hg hg0 hf1 hf2 hj hrt
  go_enter Try.func45, Try.ntmps45
  go_wp2_with fail
  refine HC.out.mono ?_
  rintro e w2 ⟨rfl, hb⟩
  have HB := Lib.hid hb
  obtain ⟨⟨h1, h2, h3, h4, h5⟩, _⟩ := (H.out.below hb).cells
  clear hb
  have c9 := (H.out.below HB.out).cells.2.2.2.2.2.1
  have hr := HR.out _ (H.out.below HB.out)
  go_wp2_with fail
  refine (HS1.out _ (HCA.out.below HB.out)).mono ?_
  rintro e w4 ⟨rfl, hw⟩
  subst w4
  go_wp2_with fail
  refine (HS2.out _ (HCA.out.below HB.out)).mono ?_
  rintro e w5 ⟨rfl, hw⟩
  subst w5
  have HW := Lib.hid (wrong_any (H.out.below HB.out) 10)
  go_wp2_with fail
  refine HW.out.mono ?_
  rintro e w9 ⟨rfl, hd, ht⟩
  have HD := Lib.hid hd
  have HT := Lib.hid ((Turn.of_below P.own HB.out).trans ht)
  clear hd ht
  go_wp2
  go_ret
  exact ⟨rfl, HD.out, HT.out⟩

theorem prog_e7 (hG : G.Ok) (h : Ref G w P st) (hoff : st.off = false) (u b g : Int) (A A2 : Option Addr) (n n2 c c2 : Nat) (dat oob : List (List UInt8)) (hca : Came w D A n A2 n2 dat oob) (hm : mayBe G u b g dat oob) (hrt : st.rt (blk G u b) = false) (hnx : g ≠ st.nx (blk G u b)) :
    Calls Try.prog 45 #[ptr P.g, .int .i64 u, .int .i64 b, .int .i64 g, .slice A n c, .slice A2 n2 c2] w fun e w' => e = .returned (.int .i64 7) ∧ Ref G w' P st.refused ∧ Turn P.own P.own w w' := by
  have hc := h.cells.2.2.2.2.2.2.1
  rw [hoff] at hc
  have H := Lib.hid h
  have HCA := Lib.hid hca
  obtain ⟨hh, hg0, hg, hf1, hf2⟩ := hm
  have HC := Lib.hid (at_ok hG h u b hh)
  have hj := blk_cnt hG hh
  have HR := Lib.hid (fun w (hd : Ref G w P st) => hd.rr.cell hj)
  rw [hrt] at HR
  have HX := Lib.hid (fun w (hd : Ref G w P st) => hd.rn.cell hj)
  have hji : (blk G u b : Int) < (cnt G : Int) := by omega
  have dx : (st.nx (blk G u b) != g) = true := by simp; omega
  have d1 : decide (g < 0) = false := by simp; omega
  have d2 : decide (G.p ≤ g) = false := by simp; omega
  have HS1 := Lib.hid (fun (w : World) (hc : Came w D A n A2 n2 dat oob) => sized_any (w := w) A n c dat G.s 16 hc.few hc.dat)
  have HS2 := Lib.hid (fun (w : World) (hc : Came w D A n A2 n2 dat oob) => sized_any (w := w) A2 n2 c2 oob G.s 17 hc.few2 hc.oob)
  rw [decide_eq_true hf1] at HS1
  rw [decide_eq_true hf2] at HS2
  generalize blk G u b = j at HC HR HX hji dx
  generalize st.nx j = x at HX dx
  clear h hoff hh hG hca hg hg0 hf1 hf2 hj hrt hnx
  go_enter Try.func45, Try.ntmps45
  go_wp2_with fail
  refine HC.out.mono ?_
  rintro e w2 ⟨rfl, hb⟩
  have HB := Lib.hid hb
  obtain ⟨⟨h1, h2, h3, h4, h5⟩, _⟩ := (H.out.below hb).cells
  clear hb
  have c9 := (H.out.below HB.out).cells.2.2.2.2.2.1
  have hr := HR.out _ (H.out.below HB.out)
  have c7 := (H.out.below HB.out).cells.2.2.2.1
  have hx := HX.out _ (H.out.below HB.out)
  go_wp2_with fail
  refine (HS1.out _ (HCA.out.below HB.out)).mono ?_
  rintro e w4 ⟨rfl, hw⟩
  subst w4
  go_wp2_with fail
  refine (HS2.out _ (HCA.out.below HB.out)).mono ?_
  rintro e w5 ⟨rfl, hw⟩
  subst w5
  have HW := Lib.hid (wrong_any (H.out.below HB.out) 7)
  go_wp2_with fail
  refine HW.out.mono ?_
  rintro e w9 ⟨rfl, hd, ht⟩
  have HD := Lib.hid hd
  have HT := Lib.hid ((Turn.of_below P.own HB.out).trans ht)
  clear hd ht
  go_wp2
  go_ret
  exact ⟨rfl, HD.out, HT.out⟩
end

end Go.Proofs.Ytlmdlhfdacmcnaa.NandRef
