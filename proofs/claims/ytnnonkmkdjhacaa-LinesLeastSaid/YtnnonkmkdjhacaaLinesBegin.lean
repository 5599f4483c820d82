/-
  How layer 12's laws begin: what New makes of whatever came in.
-/
import Derived.Test.YtnnonkmkdjhacaaLinesKit
import Derived.Test.YtnnonkmkdjhacaaLinesOps
namespace Go.Proofs.Ytnnonkmkdjhacaa.LinesLaw
open Go.RowKit Lines LinesPkg
open Nand (Shape upd)
set_option maxRecDepth 4000

theorem below_then' {B : Nat} {a w w' : World} (h : Below B a w) (hb : Below w.heap.size w w') (hB : B ≤ w.heap.size) : Below B a w' := h.trans (hb.mono hB)

/-- Either New refuses, or it makes lines. -/
theorem New_split (c l k p s : Int) (A1 : Option Addr) (n1 c1 : Nat) (zs1 : List Int) (A2 : Option Addr) (n2 c2 : Nat) (zs2 : List Int) (w : World) (hr1 : Nums w w.heap.size A1 n1 zs1) (hr2 : Nums w w.heap.size A2 n2 zs2) :
    (∀ w', Below w.heap.size w w' → Calls Try.prog 10 #[.agg #[.int .i64 c, .int .i64 l, .int .i64 k, .int .i64 p, .int .i64 s], .slice A1 n1 c1, .slice A2 n2 c2] w' fun e w'' => e = .returned (.tuple #[.pointer none, .int .i64 1]) ∧ Below w'.heap.size w' w'') ∨
    ∃ G : Shape, G.Ok ∧ G.c = c ∧ G.l = l ∧ G.k = k ∧ G.p = p ∧ G.s = s ∧ n2 = n1 ∧ (n1 : Int) = k ∧ fine n1 G.k zs1 G.U ∧ fine n1 G.k zs2 2147483647 := by
  by_cases hok : Geom.ok c l k p s
  · obtain ⟨G, hG, rfl, rfl, rfl, rfl, rfl⟩ : ∃ G : Shape, G.Ok ∧ G.c = c ∧ G.l = l ∧ G.k = k ∧ G.p = p ∧ G.s = s := ⟨⟨c, l, k, p, s, _, _, _, _⟩, Geom.sizes hok, rfl, rfl, rfl, rfl, rfl⟩
    have hm := hG.may
    unfold Geom.ok at hm
    have hn1 : (n1 : Int) = G.k → n1 ≤ 1000000000000 := fun e => by omega
    have hn2 : (n2 : Int) = G.k → n2 ≤ 1000000000000 := fun e => by omega
    by_cases h1 : fine n1 G.k zs1 G.U
    · by_cases h2 : fine n2 G.k zs2 2147483647
      · have e1 := h1.1
        have e2 := h2.1
        obtain rfl : n2 = n1 := by omega
        exact .inr ⟨G, hG, rfl, rfl, rfl, rfl, rfl, rfl, e1, h1, h2⟩
      · exact .inl fun w' hb => New_wear hG A1 n1 c1 A2 n2 c2 zs1 zs2 w' hn1 (nums_more (nums_keep hr1 hb) hb.size) h1 hn2 (nums_more (nums_keep hr2 hb) hb.size) h2
    · exact .inl fun w' hb => New_good hG A1 n1 c1 A2 n2 c2 zs1 w' hn1 (nums_more (nums_keep hr1 hb) hb.size) h1
  · exact .inl fun w' _ => New_geo c l k p s hok A1 n1 c1 A2 n2 c2 w'

/-- The lines that New makes: free, or dead, by their good blocks. -/
theorem start_is (zs1 zs2 : List Int) (i : Nat) : (LinesPkg.start zs1 zs2 i).st = freeSt (LinesPkg.start zs1 zs2 i).gd := rfl

theorem cells2 {w : World} {b : Nat} {x y : Value} {t : TypeId} (h : w.heap[b]? = some (.cells #[x, y] t (0, 0))) : w.cell? ⟨b, 0, none⟩ = some x ∧ w.cell? ⟨b, 1, none⟩ = some y := by
  refine ⟨?_, ?_⟩ <;> simp [World.cell?, h]

theorem cells5' {w : World} {b : Nat} {x0 x1 x2 x3 x4 : Value} {t : TypeId} (h : w.heap[b]? = some (.cells #[x0, x1, x2, x3, x4] t (0, 0))) : w.cell? ⟨b, 0, none⟩ = some x0 ∧ w.cell? ⟨b, 1, none⟩ = some x1 ∧ w.cell? ⟨b, 2, none⟩ = some x2 ∧ w.cell? ⟨b, 3, none⟩ = some x3 ∧ w.cell? ⟨b, 4, none⟩ = some x4 := by
  refine ⟨?_, ?_, ?_, ?_, ?_⟩ <;> simp [World.cell?, h]

theorem chg_in {f : St} {n i : Nat} (hi : i < n) (s : Int) : chg f n (i : Int) s = if (f i).st = s then 0 else 13 := by
  unfold chg
  rw [if_pos ⟨by omega, by omega⟩, Int.toNat_natCast]

theorem chg_out {f : St} {n : Nat} {line : Int} (h : ¬ (0 ≤ line ∧ line < n)) (s : Int) : chg f n line s = 2 := if_neg h

theorem doAt_no {f : St} {n : Nat} {line s : Int} {g : Ln → Ln} (h : chg f n line s ≠ 0) : doAt f n line s g = f := if_neg h
theorem doAt_in {f : St} {n i : Nat} {s : Int} {g : Ln → Ln} (hi : i < n) (h : (f i).st = s) : doAt f n (i : Int) s g = upd f i (g (f i)) := by
  unfold doAt
  rw [chg_in hi, if_pos h, if_pos rfl, Int.toNat_natCast]
end Go.Proofs.Ytnnonkmkdjhacaa.LinesLaw
