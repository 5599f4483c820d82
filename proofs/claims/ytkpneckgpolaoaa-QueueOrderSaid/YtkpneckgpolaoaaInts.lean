/-
  A row of ints that the call itself has made: make([]int, n), what its cells hold, a store into it. Nothing of the program's code is named here.
-/
import Derived.Test.YtkpneckgpolaoaaRows
import Derived.WalkKit
import Derived.OwnWalk
import Derived.Below
namespace Go.Proofs.Ytkpneckgpolaoaa
open Go.RowKit

/-- The first n cells of block Q hold the ints f 0, f 1, .., and may be written. -/
def Ints (w : World) (Q n : Nat) (f : Nat → Int) : Prop := ∀ j, j < n → w.cell? ⟨Q, j, none⟩ = some (.int .i64 (f j)) ∧ w.frozen? ⟨Q, j, none⟩ = false

def intInfo (P : Program) (e : TypeId) : Prop := ∃ i, P.info? e = some i ∧ i.zero = some (.int .i64 0) ∧ i.size = 1 ∧ i.bytes = 8

theorem run_make_ints {P : Program} (w : World) (t e : TypeId) (ht : P.underlying t = some (.slice e)) (hi : intInfo P e) (kl kc : IntKind) (n : Nat) (hn : n ≤ 1000000) :
    (Instr.makeSlice t (.int kl (n : Int)) (.int kc (n : Int))).run P w = .ok (.slice (some ⟨w.heap.size, 0, none⟩) n n) (w.alloc (.cells (List.replicate n (Value.int .i64 0)).toArray e)) := by
  obtain ⟨i, hi, hz, hsz, hby⟩ := hi
  have h := run_make (P := P) w t e i (.int .i64 0) ht hi hz kl kc (n : Int) (n : Int) (by omega) (by omega) (by rw [hby]; omega) (by omega)
  rw [h, Int.toNat_natCast, hsz, Nat.mul_one]
  have e1 : madeCells (Value.int .i64 0).cells n = (List.replicate n (Value.int .i64 0)).toArray := by
    apply Array.toList_inj.1
    show (madeCells #[.int .i64 0] n).toList = _
    rw [toList_madeCells_one]
  rw [e1]

theorem ints_made (w : World) (e : TypeId) (n : Nat) : Ints (w.alloc (.cells (List.replicate n (Value.int .i64 0)).toArray e)) w.heap.size n (fun _ => 0) := by
  intro j hj
  exact ⟨by simp [World.cell?_alloc_at, hj], World.frozen?_alloc_at _ _ _ _ rfl⟩

theorem ints_keep {w w' : World} {Q n : Nat} {f : Nat → Int} (h : Ints w Q n f) (hb : Below w.heap.size w w') : Ints w' Q n f := fun j hj =>
  ⟨(hb.cell (World.block_lt_of_cell? _ _ (h j hj).1)).trans (h j hj).1, (hb.frozen (World.block_lt_of_cell? _ _ (h j hj).1)).trans (h j hj).2⟩

theorem ints_set {w : World} {Q n : Nat} {f : Nat → Int} (h : Ints w Q n f) {x : Nat} (hx : x < n) (v : Int) : Ints (w.setCell ⟨Q, x, none⟩ (.int .i64 v)) Q n (fun j => if j = x then v else f j) := by
  intro j hj
  refine ⟨?_, (World.frozen?_setCell _ _ _ _).trans (h j hj).2⟩
  show _ = some (Value.int .i64 (if j = x then v else f j))
  by_cases e : j = x
  · subst e
    rw [if_pos rfl]
    exact World.cell?_setCell_same _ _ _ (h j hj).1
  · rw [if_neg e]
    exact (World.cell?_setCell_other w ⟨Q, x, none⟩ ⟨Q, j, none⟩ _ (fun h => e (by cases h; rfl))).trans (h j hj).1

theorem ints_eq {w : World} {Q n : Nat} {f g : Nat → Int} (h : Ints w Q n f) (e : ∀ j, j < n → f j = g j) : Ints w Q n g := fun j hj => by
  rw [← e j hj]
  exact h j hj

end Go.Proofs.Ytkpneckgpolaoaa
