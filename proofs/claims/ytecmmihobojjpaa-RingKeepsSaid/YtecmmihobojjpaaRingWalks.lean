/-
  What the small functions of package ring do.
-/
import Derived.Test.YtecmmihobojjpaaRingMem
import Derived.Test.YtecmmihobojjpaaIntsOwn
import Derived.Test.YtecmmihobojjpaaFive
import Derived.Deep.DeepCutAuto
import Derived.Deep.QuietTactic
import Derived.BigQuiet
import Derived.IntWalk
namespace Go.Proofs.Ytecmmihobojjpaa.RingPkg
open Go.RowKit Ring
set_option maxRecDepth 4000

theorem kwrap_is {x : Int} (h0 : -9223372036854775808 ≤ x) (h1 : x ≤ 9223372036854775807) : IntKind.i64.wrap x = x := IntWalk.i64_in _ (by omega)

section
variable {w : World} {P : Pl} {size t : Int} {rs : List Row}

theorem Head_any (h : Rng w P size t rs) (h0 : 0 ≤ t) (h1 : t + rs.length ≤ 1000000000000) : Calls Try.prog 13 #[ptr P.g] w fun e w' => e = .returned (.int .i64 (t + rs.length)) ∧ ∃ k, w' = w.drewN k := by
  obtain ⟨_, hc1, hc2⟩ := h.cells
  obtain ⟨A, c, hv, _⟩ := h.slice
  rw [hv] at hc2
  have hw : IntKind.i64.wrap (t + rs.length) = t + rs.length := kwrap_is (by omega) (by omega)
  clear h hv
  generalize rs.length = n at hc2 hw h1 ⊢
  go_enter Try.func13, Try.ntmps13
  go_wp2
  go_quiet (fail)
  go_wp2
  go_ret
  exact ⟨rfl, _, rfl⟩

theorem Free_any (h : Rng w P size t rs) (h0 : 0 ≤ size) (h1 : size ≤ 1000000000000) (hl : rs.length ≤ 1000000000000) : Calls Try.prog 16 #[ptr P.g] w fun e w' => e = .returned (.int .i64 (size - rs.length)) ∧ ∃ k, w' = w.drewN k := by
  obtain ⟨hc0, _, hc2⟩ := h.cells
  obtain ⟨A, c, hv, _⟩ := h.slice
  rw [hv] at hc2
  have hw : IntKind.i64.wrap (size - rs.length) = size - rs.length := kwrap_is (by omega) (by omega)
  clear h hv
  generalize rs.length = n at hc2 hw hl ⊢
  go_enter Try.func16, Try.ntmps16
  go_wp2
  go_quiet (fail)
  go_wp2
  go_ret
  exact ⟨rfl, _, rfl⟩

theorem Tail_any (h : Rng w P size t rs) : Calls Try.prog 14 #[ptr P.g] w fun e w' => e = .returned (.int .i64 t) ∧ ∃ k, w' = w.drewN k := by
  obtain ⟨_, hc1, _⟩ := h.cells
  clear h
  go_enter Try.func14, Try.ntmps14
  go_wp2
  go_ret
  exact ⟨rfl, 0, rfl⟩
end

theorem New_in (size : Int) (w : World) (h0 : 1 ≤ size) (h1 : size ≤ 256) : Calls Try.prog 11 #[.int .i64 size] w fun e w' => ∃ P, e = .returned (.tuple #[ptr P.g, .int .i64 0]) ∧ Rng w' P size 0 [] ∧ (∀ b, P.own b → w.heap.size ≤ b) ∧ Below w.heap.size w w' := by
  go_enter Try.func11, Try.ntmps11
  go_wp2
  go_ret2
  refine ⟨⟨w.heap.size, .slice none 0 0, fun _ => False⟩, rfl, Rng.new w size, ?_, (Below.refl _ _).alloc (Nat.le_refl _) _⟩
  rintro b (rfl | hb | hb)
  · exact Nat.le_refl _
  · simp [Value.ownBlock] at hb
  · exact False.elim hb

theorem New_out (size : Int) (w : World) (h : ¬ (1 ≤ size ∧ size ≤ 256)) : Calls Try.prog 11 #[.int .i64 size] w fun e w' => e = .returned (.tuple #[.pointer none, .int .i64 1]) ∧ w' = w := by
  by_cases h0 : 1 ≤ size
  · have h1 : 256 < size := by omega
    clear h
    go_enter Try.func11, Try.ntmps11
    go_wp2
    go_ret2
    exact ⟨rfl, rfl⟩
  · have h1 : size < 1 := by omega
    clear h
    go_enter Try.func11, Try.ntmps11
    go_wp2
    go_ret2
    exact ⟨rfl, rfl⟩

abbrev slotV (s : Slot) (v : Value) : Value := .agg #[.int .i64 s.k, .int .i64 s.l, .int .i64 s.s, v, .int .i64 s.f]

/-- A slot with bytes of its own. -/
theorem copied_any (s : Slot) (A : Option Addr) (n c B : Nat) (w : World) (hn : n ≤ 100000000000000) (hr : Bytes w B A n s.d) (hB : B ≤ w.heap.size) :
    Calls Try.prog 40 #[slotV s (.slice A n c)] w fun e w' => ∃ v, e = .returned (slotV s v) ∧ Own w' w.heap.size 5 v s.d ∧ Below w.heap.size w w' := by
  obtain ⟨k, l, st, d, f⟩ := s
  have HR := Lib.hid hr
  clear hr
  show Calls Try.prog 40 #[.agg #[.int .i64 k, .int .i64 l, .int .i64 st, .slice A n c, .int .i64 f]] w fun e w' => ∃ v, e = .returned (.agg #[.int .i64 k, .int .i64 l, .int .i64 st, v, .int .i64 f]) ∧ Own w' w.heap.size 5 v d ∧ Below w.heap.size w w'
  have H1 := Lib.hid ((Five.new w 35 (.int .i64 k) (.int .i64 l) (.int .i64 st) (.slice A n c) (.int .i64 f)).old (.cells #[.int .i64 0, .int .i64 0, .int .i64 0, .slice none 0 0, .int .i64 0] 35))
  have H2 := Lib.hid (Five.new (w.alloc (.cells #[.int .i64 k, .int .i64 l, .int .i64 st, .slice A n c, .int .i64 f] 35)) 35 (.int .i64 0) (.int .i64 0) (.int .i64 0) (.slice none 0 0) (.int .i64 0))
  have hb0 := ((Below.refl w.heap.size w).alloc (Nat.le_refl _) (.cells #[.int .i64 k, .int .i64 l, .int .i64 st, .slice A n c, .int .i64 f] 35))
  have HB := Lib.hid (hb0.alloc hb0.size (.cells #[.int .i64 0, .int .i64 0, .int .i64 0, .slice none 0 0, .int .i64 0] 35))
  clear hb0
  rw [show (w.alloc (.cells #[.int .i64 k, .int .i64 l, .int .i64 st, .slice A n c, .int .i64 f] 35)).heap.size = w.heap.size + 1 by simp] at H2
  go_enter Try.func40, Try.ntmps40
  go_wp2_with fail
  refine (clone_any A n c w.heap.size d _ hn (bytes_keep (bytes_more HR.out hB) HB.out) HB.out.size).mono ?_
  rintro e X ⟨v, rfl, ho, hb⟩
  replace H1 := Lib.hid (H1.out.below hb)
  replace H2 := Lib.hid (H2.out.below hb)
  obtain ⟨A2, cc, rfl, _⟩ := ho.span
  have HO : Hid (Own X (w.heap.size + 2) 5 (.slice A2 d.length cc) d) := Lib.hid (by simpa using ho)
  replace HB := Lib.hid (below_on HB.out hb HB.out.size)
  clear ho hb
  obtain ⟨c0, c1, c2, c3, c4⟩ := H1.out.cells
  obtain ⟨_, _, _, f3, _⟩ := H1.out.free
  obtain ⟨f5, f6, f7, f8, f9⟩ := H2.out.free
  obtain ⟨d0, d1, d2, d3, d4⟩ := H2.out.cells
  go_wp2
  clear c0 c1 c2 c3 c4 f3 f5 f6 f7 f8 f9 d0 d1 d2 d3 d4
  have hP := (H2.out.keep (w' := X.setCell ⟨w.heap.size, 3, none⟩ (.slice A2 d.length cc)) (Below.heap_setCell _ _ _ _ (by simp))).set (.int .i64 k) (.int .i64 l) (.int .i64 st) (.slice A2 d.length cc) (.int .i64 f)
  have HX := Lib.hid (below_set5 (HB.out.setCell (p := ⟨w.heap.size, 3, none⟩) (Nat.le_refl _) (.slice A2 d.length cc)) (Nat.le_succ _) (.int .i64 k) (.int .i64 l) (.int .i64 st) (.slice A2 d.length cc) (.int .i64 f))
  have HK : Hid (∀ b, w.heap.size + 2 ≤ b → ((((((X.setCell ⟨w.heap.size, 3, none⟩ (.slice A2 d.length cc)).setCell ⟨w.heap.size + 1, 0, none⟩ (.int .i64 k)).setCell ⟨w.heap.size + 1, 1, none⟩ (.int .i64 l)).setCell ⟨w.heap.size + 1, 2, none⟩ (.int .i64 st)).setCell ⟨w.heap.size + 1, 3, none⟩ (.slice A2 d.length cc)).setCell ⟨w.heap.size + 1, 4, none⟩ (.int .i64 f)).heap[b]? = X.heap[b]?) := Lib.hid (fun b hb => by
    rw [other_set5 (by omega), Below.heap_setCell _ _ _ _ (by simp; omega)])
  clear H1 H2 HB
  generalize World.setCell _ _ _ = Y at hP HX HK ⊢
  obtain ⟨P0, P1, P2, P3, P4⟩ := hP.cells
  refine bodyPost_ret (v := slotV ⟨k, l, st, d, f⟩ (.slice A2 d.length cc)) ?_ rfl ⟨_, rfl, ?_, HX.out⟩
  · simp [results, Try.results40, go_sem, P0, P1, P2, P3, P4]
  · exact (HO.out.keep fun b hb => HK.out b (HO.out.block b hb)).le (by omega)
end Go.Proofs.Ytecmmihobojjpaa.RingPkg
