/-
  Both lines of layer 12's laws: what New makes of both; the laws' 'alike'.
-/
import Derived.Test.YtnnonkmkdjhacaaLinesTwo
import Derived.Test.YtnnonkmkdjhacaaLinesBegin
namespace Go.Proofs.Ytnnonkmkdjhacaa.LinesLaw
open Go.RowKit Lines LinesPkg
open Nand (Shape upd)
open LinesRef (Rf)
set_option maxRecDepth 4000

theorem two_new {G : Shape} {n : Nat} {a w2 w3 : World} {P Q : Pl} {f : St} (hp : Lp G n w2 P f) (hup : ∀ b, P.own b → a.heap.size ≤ b) (hb : Below a.heap.size a w2) (hq : Rf G n w3 Q f) (hqo : ∀ b, Q.own b → w2.heap.size ≤ b) (hb3 : Below w2.heap.size w2 w3) : Two G n a P.g Q.g f f [] w3 :=
  ⟨P, Q, rfl, rfl, hp.below hb3, hq, fun b hb2 ho => by have := hqo b hb2; have := hp.lt b ho; omega, hup, fun b hb2 => Nat.le_trans hb.size (hqo b hb2), below_then hb hb3, fun q hq => absurd hq (by simp)⟩

theorem NewR_bad {G : Shape} (hG : G.Ok) (A1 : Option Addr) (n1 c1 : Nat) (zs1 : List Int) (A2 : Option Addr) (n2 c2 : Nat) (zs2 : List Int) (w : World) (hr1 : Nums w w.heap.size A1 n1 zs1) (hr2 : Nums w w.heap.size A2 n2 zs2) (h : ¬ (fine n1 G.k zs1 G.U ∧ fine n2 G.k zs2 2147483647)) :
    Calls Try.prog 11 #[.agg #[.int .i64 G.c, .int .i64 G.l, .int .i64 G.k, .int .i64 G.p, .int .i64 G.s], .slice A1 n1 c1, .slice A2 n2 c2] w fun e w' => e = .returned (.tuple #[.pointer none, .int .i64 1]) ∧ Below w.heap.size w w' := by
  by_cases h1 : (n1 : Int) = G.k
  · by_cases h2 : (n2 : Int) = G.k
    · obtain rfl : n2 = n1 := by omega
      refine (LinesRef.New_go hG A1 n2 c1 A2 c2 zs1 zs2 w h1 hr1 hr2).mono ?_
      rintro e w' (⟨P, _, hf, _⟩ | ⟨he, _, hb⟩)
      · exact absurd hf h
      · exact ⟨he, hb⟩
    · exact LinesRef.New_len hG A1 n1 c1 A2 n2 c2 (.inr h2) w
  · exact LinesRef.New_len hG A1 n1 c1 A2 n2 c2 (.inl h1) w

/-- Either both refuse, or both make the same lines. -/
theorem New_split2 (c l k p s : Int) (A1 : Option Addr) (n1 c1 : Nat) (zs1 : List Int) (A2 : Option Addr) (n2 c2 : Nat) (zs2 : List Int) (w : World) (hr1 : Nums w w.heap.size A1 n1 zs1) (hr2 : Nums w w.heap.size A2 n2 zs2) :
    ((∀ w', Below w.heap.size w w' → Calls Try.prog 10 #[.agg #[.int .i64 c, .int .i64 l, .int .i64 k, .int .i64 p, .int .i64 s], .slice A1 n1 c1, .slice A2 n2 c2] w' fun e w'' => e = .returned (.tuple #[.pointer none, .int .i64 1]) ∧ Below w'.heap.size w' w'') ∧
      ∀ w', Below w.heap.size w w' → Calls Try.prog 11 #[.agg #[.int .i64 c, .int .i64 l, .int .i64 k, .int .i64 p, .int .i64 s], .slice A1 n1 c1, .slice A2 n2 c2] w' fun e w'' => e = .returned (.tuple #[.pointer none, .int .i64 1]) ∧ Below w'.heap.size w' w'') ∨
    ∃ G : Shape, G.Ok ∧ G.c = c ∧ G.l = l ∧ G.k = k ∧ G.p = p ∧ G.s = s ∧ n2 = n1 ∧ (n1 : Int) = k ∧ fine n1 G.k zs1 G.U ∧ fine n1 G.k zs2 2147483647 := by
  by_cases hok : Geom.ok c l k p s
  · obtain ⟨G, hG, rfl, rfl, rfl, rfl, rfl⟩ : ∃ G : Shape, G.Ok ∧ G.c = c ∧ G.l = l ∧ G.k = k ∧ G.p = p ∧ G.s = s := ⟨⟨c, l, k, p, s, _, _, _, _⟩, Geom.sizes hok, rfl, rfl, rfl, rfl, rfl⟩
    have hm := hG.may
    unfold Geom.ok at hm
    have hn1 : (n1 : Int) = G.k → n1 ≤ 1000000000000 := fun e => by omega
    have hn2 : (n2 : Int) = G.k → n2 ≤ 1000000000000 := fun e => by omega
    by_cases h1 : fine n1 G.k zs1 G.U
    · by_cases h2 : fine n2 G.k zs2 2147483647
      · have e1 := h1.1
        have e2 := h2.1
        obtain rfl : n2 = n1 := by omega
        exact .inr ⟨G, hG, rfl, rfl, rfl, rfl, rfl, rfl, e1, h1, h2⟩
      · exact .inl ⟨fun w' hb => New_wear hG A1 n1 c1 A2 n2 c2 zs1 zs2 w' hn1 (nums_more (nums_keep hr1 hb) hb.size) h1 hn2 (nums_more (nums_keep hr2 hb) hb.size) h2,
          fun w' hb => NewR_bad hG A1 n1 c1 zs1 A2 n2 c2 zs2 w' (nums_more (nums_keep hr1 hb) hb.size) (nums_more (nums_keep hr2 hb) hb.size) (fun hh => h2 hh.2)⟩
    · exact .inl ⟨fun w' hb => New_good hG A1 n1 c1 A2 n2 c2 zs1 w' hn1 (nums_more (nums_keep hr1 hb) hb.size) h1,
        fun w' hb => NewR_bad hG A1 n1 c1 zs1 A2 n2 c2 zs2 w' (nums_more (nums_keep hr1 hb) hb.size) (nums_more (nums_keep hr2 hb) hb.size) (fun hh => h1 hh.1)⟩
  · exact .inl ⟨fun w' _ => New_geo c l k p s hok A1 n1 c1 A2 n2 c2 w', fun w' _ => LinesRef.New_geo c l k p s hok A1 n1 c1 A2 n2 c2 w'⟩

/-- The program's New, and the document's behind it. -/
theorem New_1 {G : Shape} (hG : G.Ok) (A1 : Option Addr) (n c1 : Nat) (A2 : Option Addr) (c2 : Nat) (zs1 zs2 : List Int) (a w : World) (hb0 : Below a.heap.size a w) (hr1 : Nums w w.heap.size A1 n zs1) (h1 : fine n G.k zs1 G.U) (hr2 : Nums w w.heap.size A2 n zs2) (h2 : fine n G.k zs2 2147483647) :
    Calls Try.prog 10 #[.agg #[.int .i64 G.c, .int .i64 G.l, .int .i64 G.k, .int .i64 G.p, .int .i64 G.s], .slice A1 n c1, .slice A2 n c2] w fun e w' => ∃ P : Pl, e = .returned (.tuple #[ptr P.g 0, .int .i64 0]) ∧ Lp G n w' P (LinesPkg.start zs1 zs2) ∧ (∀ b, P.own b → a.heap.size ≤ b) ∧ Below a.heap.size a w' := by
  refine (New_ok hG A1 n c1 A2 c2 zs1 zs2 w hr1 h1 hr2 h2).mono ?_
  rintro e w' ⟨P, he, hp, ho, hb⟩
  exact ⟨P, he, hp, fun b hb2 => Nat.le_trans hb0.size (ho b hb2), below_then hb0 hb⟩

theorem New_2 {G : Shape} (hG : G.Ok) (A1 : Option Addr) (n c1 : Nat) (A2 : Option Addr) (c2 : Nat) (zs1 zs2 : List Int) (a w : World) (P : Pl) (hp : Lp G n w P (LinesPkg.start zs1 zs2)) (ho : ∀ b, P.own b → a.heap.size ≤ b) (hb0 : Below a.heap.size a w) (hr1 : Nums w w.heap.size A1 n zs1) (h1 : fine n G.k zs1 G.U) (hr2 : Nums w w.heap.size A2 n zs2) (h2 : fine n G.k zs2 2147483647) :
    Calls Try.prog 11 #[.agg #[.int .i64 G.c, .int .i64 G.l, .int .i64 G.k, .int .i64 G.p, .int .i64 G.s], .slice A1 n c1, .slice A2 n c2] w fun e w' => ∃ rr, e = .returned (.tuple #[ptr rr 0, .int .i64 0]) ∧ Two G n a P.g rr (LinesPkg.start zs1 zs2) (LinesPkg.start zs1 zs2) [] w' := by
  refine (LinesRef.New_go hG A1 n c1 A2 c2 zs1 zs2 w h1.1 hr1 hr2).mono ?_
  rintro e w' (⟨Q, he, _, hq, hqo, hb⟩ | ⟨_, hf, _⟩)
  · exact ⟨Q.g, he, two_new hp ho hb0 hq hqo hb⟩
  · exact absurd ⟨h1, h2⟩ hf

theorem getV_form (G : Shape) (f : St) (n : Nat) (line : Int) : ∃ x0 x1 x2 x3 x4 : Int, LinesLaw.getV G f n line = .agg #[.int .i64 x0, .int .i64 x1, .int .i64 x2, .int .i64 x3, .int .i64 x4] := by
  unfold LinesLaw.getV
  split
  · exact ⟨_, _, _, _, _, rfl⟩
  · exact ⟨_, _, _, _, _, rfl⟩

set_option maxHeartbeats 4000000 in
theorem alike_any {G : Shape} {n : Nat} {a w : World} {gd rr : Nat} {f : St} (h : Two G n a gd rr f f [] w) :
    Calls Try.prog 12 #[ptr gd 0, ptr rr 0] w fun e w' => e = .returned (.bool true) ∧ Two G n a gd rr f f [] w' := by
  have hn := h.inv.2.2.1
  have H := Lib.hid h
  clear h
  go_enter Try.func12, Try.ntmps12
  go_wp2
  go_loopw [5] (fun i wr => ∃ (j : Nat) (q : Int), i = .int .i64 q ∧ q = (j : Int) - 1 ∧ j ≤ n + 2 ∧ Two G n a gd rr f f [] wr) (fun i _ => n + 2 - (intOf i + 1).toNat)
  case atStart => exact ⟨0, -1, rfl, rfl, by omega, H.out⟩
  case round =>
    obtain ⟨j, q, rfl, hq, hj, h⟩ := hrel
    replace H := Lib.hid h
    clear h
    obtain ⟨L, cc, c5⟩ := H.out.rcells
    have hq0 : -1 ≤ q := by omega
    have hq1 : q ≤ (n : Int) + 1 := by omega
    have HQ := Lib.hid hq
    have HJ := Lib.hid hj
    clear hq hj
    by_cases hlt : q ≤ n
    · obtain ⟨x0, x1, x2, x3, x4, hv⟩ := getV_form G f n q
      have HG1 := Lib.hid (Get1 H.out q)
      have HG2 := Lib.hid (fun sd w (h : Two G n a gd rr f f sd w) => Get2 h q)
      rw [hv] at HG1 HG2
      have HC1 := Lib.hid (fun sd w (h : Two G n a gd rr f f sd w) => Count1 h q)
      have HC2 := Lib.hid (fun sd w (h : Two G n a gd rr f f sd w) => Count2 h q)
      generalize LinesLaw.getE n q = E at HG1 HG2
      generalize cnt f q n = C at HC1 HC2
      clear hv
      go_wp2_with fail
      refine HG1.out.mono ?_
      rintro e2 w2 ⟨rfl, h, _⟩
      replace H := Lib.hid (h.new #[.int .i64 x0, .int .i64 x1, .int .i64 x2, .int .i64 x3, .int .i64 x4] 45)
      clear h HG1 c5
      go_wp2_with fail
      refine (HG2.out _ _ H.out).mono ?_
      rintro e3 w3 ⟨rfl, h, _⟩
      replace H := Lib.hid (h.new #[.int .i64 x0, .int .i64 x1, .int .i64 x2, .int .i64 x3, .int .i64 x4] 45)
      clear h HG2
      obtain ⟨u0, u1, u2, u3, u4⟩ := cells5' (H.out.at (.head _))
      obtain ⟨v0, v1, v2, v3, v4⟩ := cells5' (H.out.at (.tail _ (.head _)))
      go_wp2_with fail
      refine (HC1.out _ _ H.out).mono ?_
      rintro e4 w4 ⟨rfl, h, _⟩
      replace H := Lib.hid h
      clear h HC1 u0 u1 u2 u3 u4 v0 v1 v2 v3 v4
      go_wp2_with fail
      refine (HC2.out _ _ H.out).mono ?_
      rintro e5 w5 ⟨rfl, h, _⟩
      replace H := Lib.hid h
      clear h HC2
      go_wp2
      go_roundw
      case rel => exact ⟨j + 1, q + 1, by go_num, by rw [HQ.out]; omega, by have := HQ.out; have := HJ.out; omega, H.out.drop⟩
      case measure =>
        have h1 := HQ.out
        have h2 := HJ.out
        simp only [intOf]
        omega
    · have HC1 := Lib.hid (Current1 H.out)
      have HC2 := Lib.hid (fun sd w (h : Two G n a gd rr f f sd w) => Current2 h)
      have HP1 := Lib.hid (fun sd w (h : Two G n a gd rr f f sd w) => Capacity1 h)
      have HP2 := Lib.hid (fun sd w (h : Two G n a gd rr f f sd w) => Capacity2 h)
      generalize cur f n = C at HC1 HC2
      generalize cap G f n = Z at HP1 HP2
      go_wp2_with fail
      refine HC1.out.mono ?_
      rintro e2 w2 ⟨rfl, h, _⟩
      replace H := Lib.hid h
      clear h HC1 c5
      go_wp2_with fail
      refine (HC2.out _ _ H.out).mono ?_
      rintro e3 w3 ⟨rfl, h, _⟩
      replace H := Lib.hid h
      clear h HC2
      go_wp2_with fail
      refine (HP1.out _ _ H.out).mono ?_
      rintro e4 w4 ⟨rfl, h, _⟩
      replace H := Lib.hid h
      clear h HP1
      go_wp2_with fail
      refine (HP2.out _ _ H.out).mono ?_
      rintro e5 w5 ⟨rfl, h, _⟩
      replace H := Lib.hid h
      clear h HP2
      go_wp2
      go_ret
      exact ⟨rfl, H.out⟩
end Go.Proofs.Ytnnonkmkdjhacaa.LinesLaw
