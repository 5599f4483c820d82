/-
  What the laws' 'does' of layer 11 does to the program's map and the document's: it answers true, and both go the same way. Printed by does.py.
-/
import Derived.Test.YtpheblblkkclbaaL2pTwo
namespace Go.Proofs.Ytpheblblkkclbaa.L2pLaw
open Go.RowKit L2p L2pPkg
open Nand (Shape)
set_option maxRecDepth 4000

theorem cells7 {w : World} {b : Nat} {x0 x1 x2 x3 x4 x5 x6 : Value} {t : TypeId} (h : w.heap[b]? = some (.cells #[x0, x1, x2, x3, x4, x5, x6] t (0, 0))) : w.cell? ⟨b, 0, none⟩ = some x0 ∧ w.cell? ⟨b, 1, none⟩ = some x1 ∧ w.cell? ⟨b, 2, none⟩ = some x2 ∧ w.cell? ⟨b, 3, none⟩ = some x3 ∧ w.cell? ⟨b, 4, none⟩ = some x4 ∧ w.cell? ⟨b, 4 + 1, none⟩ = some x5 ∧ w.cell? ⟨b, 4 + 2, none⟩ = some x6 := by
  refine ⟨?_, ?_, ?_, ?_, ?_, ?_, ?_⟩ <;> simp [World.cell?, h]

theorem cells3' {w : World} {b : Nat} {x y z : Value} {t : TypeId} (h : w.heap[b]? = some (.cells #[x, y, z] t (0, 0))) : w.cell? ⟨b, 0, none⟩ = some x ∧ w.cell? ⟨b, 1, none⟩ = some y ∧ w.cell? ⟨b, 2, none⟩ = some z := by
  refine ⟨?_, ?_, ?_⟩ <;> simp [World.cell?, h]

def opV (x0 x1 x2 x3 x4 x5 x6 : Int) : Value := .agg #[.int .i64 x0, .int .i64 x1, .int .i64 x2, .int .i64 x3, .int .i64 x4, .int .i64 x5, .int .i64 x6]

section
variable {G : Shape} {n : Nat} {a w : World} {gd rr : Nat} {st : St}

set_option maxHeartbeats 4000000 in
theorem does_set (hG : G.Ok) (h : Two G n a gd rr st st [] w) (x0 x1 x2 x3 x4 x5 x6 : Int) (hx : 0 ≤ x0 ∧ x0 ≤ 3) :
    Calls Try.prog 16 #[ptr gd 0, ptr rr 0, opV x0 x1 x2 x3 x4 x5 x6] w fun e w' => e = .returned (.bool true) ∧ Two G n a gd rr (setSt st n G.N x1 ⟨x4, x5, x6⟩) (setSt st n G.N x1 ⟨x4, x5, x6⟩) [] w' := by
  have hN := h.new #[.int .i64 x0, .int .i64 x1, .int .i64 x2, .int .i64 x3, .int .i64 x4, .int .i64 x5, .int .i64 x6] 41
  have H := Lib.hid hN
  have HG := Lib.hid hG
  clear h hN hG
  have hs : x0 = 0 ∨ x0 = 1 ∨ x0 = 2 ∨ x0 = 3 := by omega
  rcases hs with rfl | rfl | rfl | rfl
  all_goals
    go_enter Try.func16, Try.ntmps16
    unfold opV
    have HC := Lib.hid (Set1 HG.out H.out x1 ⟨x4, x5, x6⟩)
    obtain ⟨c0, c1, c2, c3, c4, c5, c6⟩ := cells7 (H.out.at (.head _))
    go_wp2_with fail
    refine HC.out.mono ?_
    rintro e2 w2 ⟨rfl, h⟩
    replace H := Lib.hid h
    clear h HC c0 c1 c2 c3 c4 c5 c6
    have HC := Lib.hid (Set2 HG.out H.out x1 ⟨x4, x5, x6⟩)
    obtain ⟨c0, c1, c2, c3, c4, c5, c6⟩ := cells7 (H.out.at (.head _))
    unfold setV
    go_wp2_with fail
    refine HC.out.mono ?_
    rintro e3 w3 ⟨rfl, h⟩
    replace H := Lib.hid h
    clear h HC c0 c1 c2 c3 c4 c5 c6
    unfold setV
    go_wp2
    go_ret
    exact ⟨rfl, H.out.drop⟩

set_option maxHeartbeats 4000000 in
theorem does_move (hG : G.Ok) (h : Two G n a gd rr st st [] w) (x0 x1 x2 x3 x4 x5 x6 : Int) (hx : x0 = 4 ∨ x0 = 5) :
    Calls Try.prog 16 #[ptr gd 0, ptr rr 0, opV x0 x1 x2 x3 x4 x5 x6] w fun e w' => e = .returned (.bool true) ∧ Two G n a gd rr (moveSt st n G.N x1 x2 x3) (moveSt st n G.N x1 x2 x3) [] w' := by
  have hN := h.new #[.int .i64 x0, .int .i64 x1, .int .i64 x2, .int .i64 x3, .int .i64 x4, .int .i64 x5, .int .i64 x6] 41
  have H := Lib.hid hN
  have HG := Lib.hid hG
  clear h hN hG
  rcases hx with rfl | rfl
  all_goals
    go_enter Try.func16, Try.ntmps16
    unfold opV
    have HC := Lib.hid (Move1 HG.out H.out x1 x2 x3)
    obtain ⟨c0, c1, c2, c3, c4, c5, c6⟩ := cells7 (H.out.at (.head _))
    go_wp2_with fail
    refine HC.out.mono ?_
    rintro e2 w2 ⟨rfl, h⟩
    replace H := Lib.hid h
    clear h HC c0 c1 c2 c3 c4 c5 c6
    have HC := Lib.hid (Move2 HG.out H.out x1 x2 x3)
    obtain ⟨c0, c1, c2, c3, c4, c5, c6⟩ := cells7 (H.out.at (.head _))
    unfold setV
    go_wp2_with fail
    refine HC.out.mono ?_
    rintro e3 w3 ⟨rfl, h⟩
    replace H := Lib.hid h
    clear h HC c0 c1 c2 c3 c4 c5 c6
    unfold setV
    go_wp2
    go_ret
    exact ⟨rfl, H.out.drop⟩

set_option maxHeartbeats 4000000 in
theorem does_get (hG : G.Ok) (h : Two G n a gd rr st st [] w) (x0 x1 x2 x3 x4 x5 x6 : Int) (hx : x0 = 6) :
    Calls Try.prog 16 #[ptr gd 0, ptr rr 0, opV x0 x1 x2 x3 x4 x5 x6] w fun e w' => e = .returned (.bool true) ∧ Two G n a gd rr st st [] w' := by
  have hN := h.new #[.int .i64 x0, .int .i64 x1, .int .i64 x2, .int .i64 x3, .int .i64 x4, .int .i64 x5, .int .i64 x6] 41
  have H := Lib.hid hN
  have HG := Lib.hid hG
  clear h hN hG
  subst hx
  go_enter Try.func16, Try.ntmps16
  unfold opV
  obtain ⟨c0, c1, c2, c3, c4, c5, c6⟩ := cells7 (H.out.at (.head _))
  have HC1 := Lib.hid (Get1 H.out x1)
  have HC2 := Lib.hid (fun sd w (h : Two G n a gd rr st st sd w) => Get2 h x1)
  generalize getE st n x1 = E at HC1 HC2
  generalize getK n x1 = K at HC1 HC2
  go_wp2_with fail
  refine HC1.out.mono ?_
  rintro e2 w2 ⟨rfl, h, _⟩
  replace H := Lib.hid (h.new #[.int .i64 E.a, .int .i64 E.s, .int .i64 E.k] 30)
  clear h HC1 c0 c1 c2 c3 c4 c5 c6
  obtain ⟨c0, c1, c2, c3, c4, c5, c6⟩ := cells7 (H.out.at (.tail _ (.head _)))
  unfold entV
  go_wp2_with fail
  refine (HC2.out _ _ H.out).mono ?_
  rintro e3 w3 ⟨rfl, h, _⟩
  replace H := Lib.hid (h.new #[.int .i64 E.a, .int .i64 E.s, .int .i64 E.k] 30)
  clear h HC2 c0 c1 c2 c3 c4 c5 c6
  obtain ⟨f0, f1, f2⟩ := cells3' (H.out.at (.tail _ (.head _)))
  unfold entV
  go_wp2
  go_ret
  exact ⟨rfl, H.out.drop⟩

set_option maxHeartbeats 4000000 in
theorem does_live (hG : G.Ok) (h : Two G n a gd rr st st [] w) (x0 x1 x2 x3 x4 x5 x6 : Int) (hx : x0 = 7) :
    Calls Try.prog 16 #[ptr gd 0, ptr rr 0, opV x0 x1 x2 x3 x4 x5 x6] w fun e w' => e = .returned (.bool true) ∧ Two G n a gd rr st st [] w' := by
  have hN := h.new #[.int .i64 x0, .int .i64 x1, .int .i64 x2, .int .i64 x3, .int .i64 x4, .int .i64 x5, .int .i64 x6] 41
  have H := Lib.hid hN
  have HG := Lib.hid hG
  clear h hN hG
  subst hx
  go_enter Try.func16, Try.ntmps16
  unfold opV
  obtain ⟨c0, c1, c2, c3, c4, c5, c6⟩ := cells7 (H.out.at (.head _))
  have HC1 := Lib.hid (Live1 HG.out H.out x3)
  have HC2 := Lib.hid (fun sd w (h : Two G n a gd rr st st sd w) => Live2 h x3)
  unfold liveV at HC1 HC2
  generalize (if liveAt st n G.N x3 = -1 then (0 : Int) else liveAt st n G.N x3) = Z at HC1 HC2
  generalize decide (liveAt st n G.N x3 ≠ -1) = B at HC1 HC2
  go_wp2_with fail
  refine HC1.out.mono ?_
  rintro e2 w2 ⟨rfl, h⟩
  replace H := Lib.hid h
  clear h HC1 c0 c1 c2 c3 c4 c5 c6
  obtain ⟨c0, c1, c2, c3, c4, c5, c6⟩ := cells7 (H.out.at (.head _))
  go_wp2_with fail
  refine (HC2.out _ _ H.out).mono ?_
  rintro e3 w3 ⟨rfl, h⟩
  replace H := Lib.hid h
  clear h HC2 c0 c1 c2 c3 c4 c5 c6
  go_wp2
  go_ret
  exact ⟨rfl, H.out.drop⟩

set_option maxHeartbeats 4000000 in
theorem does_line (hG : G.Ok) (h : Two G n a gd rr st st [] w) (x0 x1 x2 x3 x4 x5 x6 : Int) (hx : x0 = 8) :
    Calls Try.prog 16 #[ptr gd 0, ptr rr 0, opV x0 x1 x2 x3 x4 x5 x6] w fun e w' => e = .returned (.bool true) ∧ Two G n a gd rr st st [] w' := by
  have hN := h.new #[.int .i64 x0, .int .i64 x1, .int .i64 x2, .int .i64 x3, .int .i64 x4, .int .i64 x5, .int .i64 x6] 41
  have H := Lib.hid hN
  have HG := Lib.hid hG
  clear h hN hG
  subst hx
  go_enter Try.func16, Try.ntmps16
  unfold opV
  obtain ⟨c0, c1, c2, c3, c4, c5, c6⟩ := cells7 (H.out.at (.head _))
  have HV1 := Lib.hid (fun sd w (h : Two G n a gd rr st st sd w) => Valid1 HG.out h x3)
  have HV2 := Lib.hid (fun sd w (h : Two G n a gd rr st st sd w) => Valid2 HG.out h x3)
  have HB1 := Lib.hid (fun sd w (h : Two G n a gd rr st st sd w) => Bits1 HG.out h x3)
  have HB2 := Lib.hid (fun sd w (h : Two G n a gd rr st st sd w) => Bits2 HG.out h x3)
  generalize validAt st n G x3 = V at HV1 HV2
  generalize bitsAt st n G x3 = L at HB1 HB2
  have hq := str_eq (rfl : L = L)
  obtain ⟨ll, hll⟩ : ∃ l, l = L.length := ⟨_, rfl⟩
  rw [← hll] at HB1 HB2
  clear hll
  have HM := Lib.hid (H.out.on (Below.refl _ _).drew)
  go_wp2_with fail
  go_region_held (fun w' => w'.cell? ⟨w.heap.size, 3, none⟩ = some (.int .i64 x3))
    (first | exact (cells7 (HM.out.at (.head _))).2.2.2.1)
    (first
      | (go_at_call 26; refine (HV1.out _ _ HM.out).mono ?_; rintro e5 w5 ⟨rfl, h, hb⟩; replace HM := Lib.hid h; clear h)
      | (go_at_call 43; refine (HV2.out _ _ HM.out).mono ?_; rintro e5 w5 ⟨rfl, h, hb⟩; replace HM := Lib.hid h; clear h)
      | (go_at_call 14; refine (HB1.out _ _ HM.out).mono ?_; rintro e6 w6 ⟨A6, c6', rfl, hr, h, hb⟩; have hs1 := run_str (P := Try.prog) w6 35 9 5 Try.underlying35 Try.underlying5 Try.underlying9 (c := c6') hr; have HR6 := Lib.hid hr; replace HM := Lib.hid h; clear h hr)
      | (go_at_call 15; refine (HB2.out _ _ HM.out).mono ?_; rintro e7 w7 ⟨A7, c7', rfl, hr, h, hb⟩; have hs2 := run_str (P := Try.prog) w7 35 9 5 Try.underlying35 Try.underlying5 Try.underlying9 (c := c7') hr; have hs3 := run_str (P := Try.prog) w7 35 9 5 Try.underlying35 Try.underlying5 Try.underlying9 (c := c6') (bytes_keep HR6.out hb); replace HM := Lib.hid h; clear h hr))
  all_goals
    clear hs1 hs2 hs3 hq
    go_wp2
    go_ret
    exact ⟨rfl, HM.out.drop⟩

set_option maxHeartbeats 4000000 in
theorem does_else (hG : G.Ok) (h : Two G n a gd rr st st [] w) (x0 x1 x2 x3 x4 x5 x6 : Int) (hx : x0 < 0 ∨ 8 < x0) :
    Calls Try.prog 16 #[ptr gd 0, ptr rr 0, opV x0 x1 x2 x3 x4 x5 x6] w fun e w' => e = .returned (.bool true) ∧ Two G n a gd rr st st [] w' := by
  have hN := h.new #[.int .i64 x0, .int .i64 x1, .int .i64 x2, .int .i64 x3, .int .i64 x4, .int .i64 x5, .int .i64 x6] 41
  have H := Lib.hid hN
  have HG := Lib.hid hG
  clear h hN hG
  have b0 : (x0 == 0) = false := by simp; omega
  have b1 : (x0 == 1) = false := by simp; omega
  have b2 : (x0 == 2) = false := by simp; omega
  have b3 : (x0 == 3) = false := by simp; omega
  have b4 : (x0 == 4) = false := by simp; omega
  have b5 : (x0 == 5) = false := by simp; omega
  have b6 : (x0 == 6) = false := by simp; omega
  have b7 : (x0 == 7) = false := by simp; omega
  have b8 : (x0 == 8) = false := by simp; omega
  clear hx
  go_enter Try.func16, Try.ntmps16
  unfold opV
  obtain ⟨c0, c1, c2, c3, c4, c5, c6⟩ := cells7 (H.out.at (.head _))
  go_wp2
  go_ret
  exact ⟨rfl, H.out.drop⟩

theorem does_any (hG : G.Ok) (h : Two G n a gd rr st st [] w) (x0 x1 x2 x3 x4 x5 x6 : Int) :
    Calls Try.prog 16 #[ptr gd 0, ptr rr 0, opV x0 x1 x2 x3 x4 x5 x6] w fun e w' => e = .returned (.bool true) ∧ ∃ st', Two G n a gd rr st' st' [] w' := by
  by_cases h0 : 0 ≤ x0 ∧ x0 ≤ 3
  · exact (does_set hG h x0 x1 x2 x3 x4 x5 x6 h0).mono fun e w' hh => ⟨hh.1, _, hh.2⟩
  by_cases h1 : x0 = 4 ∨ x0 = 5
  · exact (does_move hG h x0 x1 x2 x3 x4 x5 x6 h1).mono fun e w' hh => ⟨hh.1, _, hh.2⟩
  by_cases h2 : x0 = 6
  · exact (does_get hG h x0 x1 x2 x3 x4 x5 x6 h2).mono fun e w' hh => ⟨hh.1, _, hh.2⟩
  by_cases h3 : x0 = 7
  · exact (does_live hG h x0 x1 x2 x3 x4 x5 x6 h3).mono fun e w' hh => ⟨hh.1, _, hh.2⟩
  by_cases h4 : x0 = 8
  · exact (does_line hG h x0 x1 x2 x3 x4 x5 x6 h4).mono fun e w' hh => ⟨hh.1, _, hh.2⟩
  · exact (does_else hG h x0 x1 x2 x3 x4 x5 x6 (by omega)).mono fun e w' hh => ⟨hh.1, _, hh.2⟩
end
end Go.Proofs.Ytpheblblkkclbaa.L2pLaw

