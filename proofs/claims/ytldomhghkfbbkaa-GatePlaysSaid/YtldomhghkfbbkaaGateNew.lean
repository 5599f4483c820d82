/-
  What New of package gate does, for every input.
-/
import Derived.Test.YtldomhghkfbbkaaGateMem
import Derived.Deep.RegionHeld3
namespace Go.Proofs.Ytldomhghkfbbkaa.GatePkg
open Go.Conc Go.RowKit Gate Lib
set_option maxRecDepth 4000

theorem bytes_tok : ∃ i, Try.prog.info? 55 = some i ∧ i.bytes = 0 := by
  have h : (Try.prog.info? 55).map (·.bytes) = some 0 := by kernel_rfl
  obtain ⟨i, hi, hb⟩ := Option.map_eq_some_iff.1 h
  exact ⟨i, hi, hb⟩
theorem make_ch (w : World) (M : Nat) (hM : M ≤ 256) : (Instr.makeChan 48 (.int .i64 (M : Int))).run Try.prog w = .ok (.chan (some w.heap.size)) (w.alloc (.chan M #[] false 0 0 false)) := by
  obtain ⟨i, hi, hb⟩ := bytes_tok
  exact run_makeChan (P := Try.prog) (w := w) Try.underlying48 hi .i64 M (by omega) (by rw [hb]; omega)

theorem New_bad (many : Int) (h : many < 1 ∨ 256 < many) (w : World) : Calls Try.prog 11 #[.int .i64 many] w fun e w' => e = .returned (.tuple #[.pointer none, .int .i64 1]) ∧ w' = w := by
  by_cases h1 : many < 1
  · clear h
    go_enter Try.func11, Try.ntmps11
    go_wp2
    go_ret2
    exact ⟨rfl, rfl⟩
  · have h2 : 256 < many := by omega
    clear h
    go_enter Try.func11, Try.ntmps11
    go_wp2
    go_ret2
    exact ⟨rfl, rfl⟩

/-- What New hands back. -/
def Made (w : World) (M : Nat) (v : Value) (w' : World) : Prop := ∃ g c d, v = .pointer (some ⟨g, 0, none⟩) ∧ w.heap.size ≤ g ∧ w.heap.size ≤ c ∧ w.heap.size ≤ d ∧ Gt w' g c d M 0 0 ∧ Below w.heap.size w w'

theorem made_of (w : World) (M : Nat) (h1 : 1 ≤ M) (h2 : M ≤ 256) (c d : Nat) (hcd : (c = w.heap.size ∧ d = w.heap.size + 1) ∨ (c = w.heap.size + 1 ∧ d = w.heap.size)) :
    Made w M (.pointer (some ⟨w.heap.size + 1 + 1, 0, none⟩)) (((w.alloc (.chan M #[] false 0 0 false)).alloc (.chan M #[] false 0 0 false)).alloc (.cells #[.int .i64 (M : Int), .chan (some c), .chan (some d)] 50)).drew := by
  obtain ⟨W2, hW2⟩ : ∃ W2, W2 = (w.alloc (.chan M #[] false 0 0 false)).alloc (.chan M #[] false 0 0 false) := ⟨_, rfl⟩
  have hs2 : W2.heap.size = w.heap.size + 1 + 1 := by rw [hW2]; simp
  have k0 : W2.heap[w.heap.size]? = some (.chan M #[] false 0 0 false) := by
    rw [hW2, Below.heap_alloc _ _ _ (by simp)]
    exact heap_alloc_new w _
  have k1 : W2.heap[w.heap.size + 1]? = some (.chan M #[] false 0 0 false) := by
    rw [hW2]
    have := heap_alloc_new (w.alloc (.chan M #[] false 0 0 false)) (.chan M #[] false 0 0 false)
    simpa only [World.size_alloc] using this
  have hb2 : Below w.heap.size w W2 := by
    rw [hW2]
    exact ((Below.refl _ w).alloc (Nat.le_refl _) _).alloc (by simp) _
  rw [← hW2]
  clear hW2
  have kc : W2.heap[c]? = some (.chan M #[] false 0 0 false) := by rcases hcd with ⟨rfl, _⟩ | ⟨rfl, _⟩ <;> assumption
  have kd : W2.heap[d]? = some (.chan M #[] false 0 0 false) := by rcases hcd with ⟨_, rfl⟩ | ⟨_, rfl⟩ <;> assumption
  have lc := chan_lt kc
  have ld := chan_lt kd
  refine ⟨w.heap.size + 1 + 1, c, d, rfl, by omega, by omega, by omega, ⟨?_, ⟨Nat.zero_le _, 0, 0, ?_⟩, ⟨Nat.zero_le _, 0, 0, ?_⟩, by omega, h1, h2⟩, (hb2.alloc (by omega) _).drew⟩
  · have := heap_alloc_new W2 (.cells #[.int .i64 (M : Int), .chan (some c), .chan (some d)] 50)
    rw [hs2] at this
    exact this
  · exact (Below.heap_alloc W2 _ c lc).trans kc
  · exact (Below.heap_alloc W2 _ d ld).trans kd

theorem New_ok (M : Nat) (h1 : 1 ≤ M) (h2 : M ≤ 256) (w : World) : Calls Try.prog 11 #[.int .i64 (M : Int)] w fun e w' => ∃ v, e = .returned (.tuple #[v, .int .i64 0]) ∧ Made w M v w' := by
  have hmk := fun w => make_ch w M h2
  have b1 : decide ((M : Int) < 1) = false := by simp; omega
  have b2 : decide (256 < (M : Int)) = false := by simp; omega
  have A1 := Lib.hid (made_of w M h1 h2 w.heap.size (w.heap.size + 1) (.inl ⟨rfl, rfl⟩))
  have A2 := Lib.hid (made_of w M h1 h2 (w.heap.size + 1) w.heap.size (.inr ⟨rfl, rfl⟩))
  go_enter Try.func11, Try.ntmps11
  go_wp2
  go_region
  · go_wp2
    go_ret2
    exact ⟨_, rfl, A1.out⟩
  · go_wp2
    go_ret2
    exact ⟨_, rfl, A2.out⟩
end Go.Proofs.Ytldomhghkfbbkaa.GatePkg
