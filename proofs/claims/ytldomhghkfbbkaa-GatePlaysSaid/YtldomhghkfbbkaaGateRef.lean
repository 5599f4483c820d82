/-
  The document's gate in memory, and what its calls do, for every input.
-/
import Derived.Test.YtldomhghkfbbkaaGateNew
namespace Go.Proofs.Ytldomhghkfbbkaa.GateRef
open Go.Conc Go.RowKit Gate Lib GatePkg
set_option maxRecDepth 4000

/-- The document's gate of M tokens: a of the clients, b of the others. -/
def Rt (w : World) (q M a b : Nat) : Prop := w.heap[q]? = some (.cells #[.int .i64 (M : Int), .int .i64 0, .int .i64 (a : Int), .int .i64 (b : Int)] 52 (0, 0))

/-- Nothing but block q has turned. -/
structure Only (q : Nat) (w w' : World) : Prop where
  size : w'.heap.size = w.heap.size
  block : ∀ x, x ≠ q → w'.heap[x]? = w.heap[x]?
  below : ∀ B a, Below B a w → B ≤ q → Below B a w'
theorem Only.refl (q : Nat) (w : World) : Only q w w := ⟨rfl, fun _ _ => rfl, fun _ _ h _ => h⟩
theorem Only.drew {q : Nat} {w w' : World} (h : Only q w w') : Only q w w'.drew := ⟨h.size, h.block, fun B a hb hq => (h.below B a hb hq).drew⟩
theorem Only.set {q : Nat} {w w' : World} (h : Only q w w') (o : Nat) (v : Value) : Only q w (w'.setCell ⟨q, o, none⟩ v) :=
  ⟨by rw [← h.size]; simp [World.setCell], fun x hx => (Below.heap_setCell _ _ _ _ hx).trans (h.block x hx), fun B a hb hq => (h.below B a hb hq).setCell (p := ⟨q, o, none⟩) hq _⟩

section
variable {w w' : World} {q M a b : Nat}
theorem Rt.cells (h : Rt w q M a b) : w.cell? ⟨q, 0, none⟩ = some (.int .i64 (M : Int)) ∧ w.cell? ⟨q, 1, none⟩ = some (.int .i64 0) ∧ w.cell? ⟨q, 2, none⟩ = some (.int .i64 (a : Int)) ∧ w.cell? ⟨q, 3, none⟩ = some (.int .i64 (b : Int)) := by
  unfold Rt at h
  simp [World.cell?, h]
theorem Rt.free (h : Rt w q M a b) : w.frozen? ⟨q, 1, none⟩ = false ∧ w.frozen? ⟨q, 2, none⟩ = false ∧ w.frozen? ⟨q, 3, none⟩ = false := by
  unfold Rt at h
  simp [World.frozen?, h]
theorem Rt.lt (h : Rt w q M a b) : q < w.heap.size := (Array.getElem?_eq_some_iff.1 h).1
theorem Rt.keep (h : Rt w q M a b) (hk : w'.heap[q]? = w.heap[q]?) : Rt w' q M a b := hk.trans h
theorem Rt.set2 (h : Rt w q M a b) (x : Nat) : Rt (w.setCell ⟨q, 2, none⟩ (.int .i64 (x : Int))) q M x b := by
  unfold Rt at h ⊢
  simp [World.setCell, Array.getElem?_modify, h]
theorem Rt.set3 (h : Rt w q M a b) (x : Nat) : Rt (w.setCell ⟨q, 3, none⟩ (.int .i64 (x : Int))) q M a x := by
  unfold Rt at h ⊢
  simp [World.setCell, Array.getElem?_modify, h]
theorem Rt.setN (h : Rt w q M a b) (x y : Nat) : Rt (((w.setCell ⟨q, 1, none⟩ (.int .i64 0)).setCell ⟨q, 2, none⟩ (.int .i64 (x : Int))).setCell ⟨q, 3, none⟩ (.int .i64 (y : Int))) q M x y := by
  unfold Rt at h ⊢
  simp [World.setCell, Array.getElem?_modify, h]

theorem rLeft_any (h : Rt w q M a b) (k : Int) : Calls Try.prog 16 #[.pointer (some ⟨q, 0, none⟩), .int .i64 k] w fun e w' => e = .returned (.int .i64 (left a b k : Int)) ∧ w' = w := by
  obtain ⟨c0, c1, c2, c3⟩ := h.cells
  unfold left
  clear h
  by_cases h1 : k = 1
  · rw [if_pos h1]
    subst h1
    go_enter Try.func16, Try.ntmps16
    go_wp2
    go_ret
    exact ⟨rfl, rfl⟩
  · by_cases h2 : k = 2
    · rw [if_neg h1, if_pos h2]
      subst h2
      go_enter Try.func16, Try.ntmps16
      go_wp2
      go_ret
      exact ⟨rfl, rfl⟩
    · rw [if_neg h1, if_neg h2]
      by_cases h3 : k < 1
      · clear h1 h2
        go_enter Try.func16, Try.ntmps16
        go_wp2
        go_ret
        exact ⟨rfl, rfl⟩
      · have h4 : 2 < k := by omega
        clear h1 h2
        go_enter Try.func16, Try.ntmps16
        go_wp2
        go_ret
        exact ⟨rfl, rfl⟩

theorem rTake_any (h : Rt w q M a b) (hM : M ≤ 256) (ha : a ≤ M) (hb : b ≤ M) (k : Int) : Calls Try.prog 14 #[.pointer (some ⟨q, 0, none⟩), .int .i64 k] w
    fun e w' => e = .returned (.bool (decide (0 < left a b k))) ∧ Rt w' q M (take1 a k) (take2 b k) ∧ Only q w w' := by
  have HL := Lib.hid (rLeft_any h k)
  rcases Nat.eq_zero_or_pos (left a b k) with hz | hp
  · have HD := Lib.hid (show decide (0 < left a b k) = false by rw [hz]; rfl)
    have HE := Lib.hid (show take1 a k = a ∧ take2 b k = b by
      unfold left at hz
      unfold take1 take2
      by_cases h1 : k = 1
      · rw [if_pos h1] at hz
        rw [if_pos h1, if_neg (by omega)]
        omega
      · rw [if_neg h1] at hz ⊢
        by_cases h2 : k = 2
        · rw [if_pos h2] at hz ⊢
          omega
        · rw [if_neg h2]
          exact ⟨rfl, rfl⟩)
    rw [hz] at HL
    have HG := Lib.hid h
    clear h hz
    go_enter Try.func14, Try.ntmps14
    go_wp2_with (refine HL.out.mono ?_; rintro e w' ⟨rfl, rfl⟩; clear HL)
    go_ret
    exact ⟨by rw [HD.out]; rfl, by rw [HE.out.1, HE.out.2]; exact HG.out, Only.refl _ _⟩
  · have HD := Lib.hid (show decide (0 < left a b k) = true by simp; omega)
    obtain ⟨c0, c1, c2, c3⟩ := h.cells
    obtain ⟨f1, f2, f3⟩ := h.free
    unfold left at hp HL
    by_cases h1 : k = 1
    · subst h1
      rw [if_pos rfl] at hp HL
      have HG := Lib.hid (h.set2 (a - 1))
      have HO := Lib.hid (((Only.refl q w).set 2 (.int .i64 ((a - 1 : Nat) : Int))).drew)
      have hne : decide ((a : Int) = 0) = false := by simp; omega
      have hbe : ((a : Int) == 0) = false := by simp; omega
      have hw1 : IntKind.i64.wrap ((a : Int) - 1) = ((a - 1 : Nat) : Int) := by rw [IntKind.wrap_i64]; omega
      clear h
      go_enter Try.func14, Try.ntmps14
      go_wp2_with (refine HL.out.mono ?_; rintro e w' ⟨rfl, rfl⟩; clear HL)
      go_region
      go_wp2
      go_ret
      exact ⟨by rw [HD.out]; rfl, HG.out, HO.out⟩
    · by_cases h2 : k = 2
      · subst h2
        rw [if_neg h1, if_pos rfl] at hp HL
        clear h1
        have HG := Lib.hid (h.set3 (b - 1))
        have HO := Lib.hid (((Only.refl q w).set 3 (.int .i64 ((b - 1 : Nat) : Int))).drew)
        have hne : decide ((b : Int) = 0) = false := by simp; omega
        have hbe : ((b : Int) == 0) = false := by simp; omega
        have hw1 : IntKind.i64.wrap ((b : Int) - 1) = ((b - 1 : Nat) : Int) := by rw [IntKind.wrap_i64]; omega
        clear h
        go_enter Try.func14, Try.ntmps14
        go_wp2_with (refine HL.out.mono ?_; rintro e w' ⟨rfl, rfl⟩; clear HL)
        go_region
        go_wp2
        go_ret
        exact ⟨by rw [HD.out]; rfl, HG.out, HO.out⟩
      · rw [if_neg h1, if_neg h2] at hp
        exact absurd hp (by omega)

theorem rFill_any (h : Rt w q M a b) (free low high : Int) (hf0 : -9223372036854775808 ≤ free) (hf1 : free ≤ 9223372036854775807) : Calls Try.prog 18 #[.pointer (some ⟨q, 0, none⟩), .int .i64 free, .int .i64 low, .int .i64 high] w
    fun e w' => e = .returned (.tuple #[]) ∧ Rt w' q M (fst free low high M).toNat (snd free low high M).toNat ∧ Only q w w' := by
  obtain ⟨c0, c1, c2, c3⟩ := h.cells
  obtain ⟨f1, f2, f3⟩ := h.free
  have HS := Lib.hid (rSplit_any free low high M w hf0 hf1)
  have hb : 0 ≤ fst free low high M ∧ 0 ≤ snd free low high M := by
    rcases hok : ok low high M with _ | _
    · obtain ⟨e1, e2⟩ := bad (free := free) hok
      omega
    · have := bounds hok (free := free)
      have := all hok (free := free)
      omega
  generalize fst free low high M = x at *
  generalize snd free low high M = y at *
  obtain ⟨x, rfl⟩ : ∃ n : Nat, x = n := ⟨x.toNat, by omega⟩
  obtain ⟨y, rfl⟩ : ∃ n : Nat, y = n := ⟨y.toNat, by omega⟩
  have hx : ((x : Nat) : Int).toNat = x := by omega
  have hy : ((y : Nat) : Int).toNat = y := by omega
  rw [hx, hy]
  have HG := Lib.hid (h.setN x y)
  have HO := Lib.hid ((((Only.refl q w).set 1 (.int .i64 0)).set 2 (.int .i64 (x : Int))).set 3 (.int .i64 (y : Int)))
  clear h hx hy hb
  go_enter Try.func18, Try.ntmps18
  go_wp2_with (refine HS.out.mono ?_; rintro e w' ⟨rfl, rfl⟩; clear HS)
  go_end0
  exact ⟨rfl, HG.out, HO.out⟩
end

theorem rNew_bad (many : Int) (h : many < 1 ∨ 256 < many) (w : World) : Calls Try.prog 12 #[.int .i64 many] w fun e w' => e = .returned (.tuple #[.pointer none, .int .i64 1]) ∧ w' = w := by
  by_cases h1 : many < 1
  · clear h
    go_enter Try.func12, Try.ntmps12
    go_wp2
    go_ret2
    exact ⟨rfl, rfl⟩
  · have h2 : 256 < many := by omega
    clear h
    go_enter Try.func12, Try.ntmps12
    go_wp2
    go_ret2
    exact ⟨rfl, rfl⟩

theorem rNew_ok (M : Nat) (h1 : 1 ≤ M) (h2 : M ≤ 256) (w : World) : Calls Try.prog 12 #[.int .i64 (M : Int)] w
    fun e w' => e = .returned (.tuple #[.pointer (some ⟨w.heap.size, 0, none⟩), .int .i64 0]) ∧ Rt w' w.heap.size M 0 0 ∧ Below w.heap.size w w' := by
  have b1 : decide ((M : Int) < 1) = false := by simp; omega
  have b2 : decide (256 < (M : Int)) = false := by simp; omega
  go_enter Try.func12, Try.ntmps12
  go_wp2
  go_ret2
  exact ⟨rfl, heap_alloc_new w _, (Below.refl _ w).alloc (Nat.le_refl _) _⟩
end Go.Proofs.Ytldomhghkfbbkaa.GateRef
