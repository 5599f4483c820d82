/-
  What layer 13's laws want beside the contracts: their own 'awake', two slices of ints that are the same, a region that draws its order and calls what leaves old memory as it was.
-/
import Derived.Test.YtodaigdlfpinhaaVictimRef2
import Derived.Test.YtodaigdlfpinhaaVictimOrder
namespace Go.Proofs.Ytodaigdlfpinhaa.VictimLaw
open Go.RowKit Victim VictimPkg Lib
set_option maxRecDepth 4000

/-- Two slices of ints that hold the same. -/
theorem same_ints {w : World} {Q Q' m c c' : Nat} {f : Nat → Int} (hm : m ≤ 1000) (h : Ints w Q m f) (h' : Ints w Q' m f) :
    Calls Try.prog 12 #[.slice (some ⟨Q, 0, none⟩) m c, .slice (some ⟨Q', 0, none⟩) m c'] w fun e w' => e = .returned (.bool true) ∧ Below w.heap.size w w' := by
  have HR := Lib.hid h
  have HR' := Lib.hid h'
  clear h h'
  go_enter Try.func12, Try.ntmps12
  go_wp2
  go_loopw [5] (fun i wr => ∃ k : Nat, k ≤ m ∧ i = .int .i64 k ∧ ∃ j, wr = w.drewN j) (fun i _ => m - (intOf i).toNat)
  case atStart => exact ⟨0, by omega, rfl, 0, rfl⟩
  case round =>
    obtain ⟨k, hk, rfl, j, rfl⟩ := hrel
    by_cases hlt : k < m
    · obtain ⟨k0, _⟩ := HR.out k hlt
      obtain ⟨q0, _⟩ := HR'.out k hlt
      generalize f k = z at k0 q0
      have hlt2 : (k : Int) < (m : Int) := by omega
      have hk0 : (0 : Int) ≤ (k : Int) := by omega
      go_wp2
      go_quiet (fail)
      go_wp2
      go_roundw
      case rel => exact ⟨k + 1, by omega, by go_num, _, rfl⟩
      case measure => simp [intOf]; omega
    · go_wp2
      go_ret
      exact ⟨rfl, below_dn (Below.refl _ _) _⟩

def two : Nat → Ln := fun i => if i = 0 then ⟨2, 0, 0, 3, 8⟩ else ⟨2, 0, 0, 1, 8⟩

theorem two_pick : pick two 2 = (1, true) := by
  have hr : rks two 2 = [(3, 0, 0), (1, 0, 1)] := by decide
  exact pick_best (a := (1, 0, 1)) (by rw [hr]; decide) (by rw [hr]; decide)

theorem awake_any (w : World) : Calls Try.prog 9 #[] w fun e w' => e = .returned (.bool true) ∧ Below w.heap.size w w' := by
  obtain ⟨X, hX⟩ : ∃ X, X = w.alloc (.cells #[.int .i64 2, .int .i64 0, .int .i64 0, .int .i64 3, .int .i64 8, .int .i64 2, .int .i64 0, .int .i64 0, .int .i64 1, .int .i64 8] 33) := ⟨_, rfl⟩
  have hb : Below w.heap.size w X := by rw [hX]; exact (Below.refl _ _).alloc (Nat.le_refl _) _
  have hh : X.heap[w.heap.size]? = some (.cells #[.int .i64 2, .int .i64 0, .int .i64 0, .int .i64 3, .int .i64 8, .int .i64 2, .int .i64 0, .int .i64 0, .int .i64 1, .int .i64 8] 33 (0, 0)) := by rw [hX]; exact heap_alloc_new _ _
  have hl : Lines X X.heap.size (some ⟨w.heap.size, 0, none⟩) 2 two := fun i hi => by
    refine ⟨w.heap.size, 0, rfl, (Array.getElem?_eq_some_iff.1 hh).1, ?_⟩
    rcases (show i = 0 ∨ i = 1 by omega) with rfl | rfl
    · constructor <;> simp [World.cell?, hh, two]
    · constructor <;> simp [World.cell?, hh, two]
  have HP := Lib.hid (Pick_any hl (Nat.le_refl _) (by omega) 2)
  rw [two_pick] at HP
  have HB := Lib.hid hb
  have HX := Lib.hid hX
  clear hX hb hh hl
  go_enter Try.func9, Try.ntmps9
  go_wp2_with fail
  rw [← HX.out]
  refine HP.out.mono ?_
  rintro e w2 ⟨rfl, hb⟩
  replace HB := Lib.hid (below_then HB.out hb)
  clear hb HP
  go_wp2
  go_ret
  exact ⟨rfl, HB.out⟩

/-- A world behind w0 in which all that is old stands as it stood. -/
structure Later (w0 : World) where
  w : World
  h : Below w0.heap.size w0 w

instance (w : World) : Nonempty (Later w) := ⟨⟨w, Below.refl _ _⟩⟩

theorem wp_region_later {P : Program} {id : Nat} {Q : Exit → Act → World → Prop} {a : Act} {w : World} {l : List Oper} (hm : P.follows .mixedOrders = true) (hB : Region.lexB .any l.toArray = true)
    (h : wpQuiet P l.toArray (fun w' => ∃ p : Later w, w' = p.w) (fun a' => ∀ w', (∃ p : Later w, w' = p.w) → Q .normal a' w') l a) : (Code.region id l.toArray true).wp P Q a w :=
  wp_region_quiet (C := fun w' => ∃ p : Later w, w' = p.w) hm hB ⟨⟨w.drew, below_dn (Below.refl _ _) 1⟩, rfl⟩ (by simpa using h)

theorem Later.calls {P : Program} {f : FuncId} {args : Array Value} {w0 : World} {p : Later w0} {v : Value}
    (h : Calls P f args p.w fun e w' => e = .returned v ∧ Below p.w.heap.size p.w w') : Calls P f args p.w fun e w'' => e = .returned v ∧ ∃ q : Later w0, w'' = q.w :=
  h.mono fun _ w' hh => ⟨hh.1, ⟨w', below_then p.h hh.2⟩, rfl⟩

end Go.Proofs.Ytodaigdlfpinhaa.VictimLaw
