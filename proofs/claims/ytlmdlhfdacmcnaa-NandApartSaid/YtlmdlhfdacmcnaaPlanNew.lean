/-
  What the functions of package plan do, the second part: New, Many, Rest, Next.
-/
import Derived.Test.YtlmdlhfdacmcnaaPlanWalks
import Derived.Deep.DeepCutAuto
namespace Go.Proofs.Ytlmdlhfdacmcnaa.PlanPkg
open Go.RowKit
set_option maxRecDepth 4000

/-- A plan in memory. -/
abbrev At (w : World) (lo g : Nat) (xs : List UInt8) (k : Int) : Prop := Bag 99 w lo g xs k

/-- A pointer to block g. -/
abbrev ptr (g : Nat) : Value := .pointer (some ⟨g, 0, none⟩)

theorem New_any (A : Option Addr) (n c B : Nat) (xs : List UInt8) (w : World) (hn : n ≤ 100000000000000) (hr : Bytes w B A n xs) (hB : B ≤ w.heap.size) :
    Calls Try.prog 40 #[.slice A n c] w fun e w' => ∃ g, e = .returned (ptr g) ∧ w.heap.size ≤ g ∧ At w' w.heap.size g xs 0 ∧ Below w.heap.size w w' := by
  have HC := Lib.hid (clone_any A n c B xs w hn hr hB)
  clear hr
  go_enter Try.func40, Try.ntmps40
  go_wp2_with fail
  refine HC.out.mono ?_
  rintro e w2 ⟨v, rfl, ho, hb⟩
  obtain ⟨A2, c2, rfl, h1, h2, hs⟩ := ho.span
  have HS := Lib.hid hs
  have HB := Lib.hid hb
  have h3 := hb.size
  have HL := Lib.hid h2
  clear ho hb hs h2
  go_wp2
  go_ret
  exact ⟨w2.heap.size, rfl, h3, Bag.new h1 HL.out HS.out 0, HB.out.alloc h3 _⟩

theorem Next_none (lo g : Nat) (k s : Int) (w : World) (h : At w lo g [] k) (hk : -9223372036854775808 ≤ k) (hk2 : k < 9223372036854775807) :
    Calls Try.prog 52 #[ptr g, .int .i64 s] w fun e w' => e = .returned (.tuple #[.int .i64 0, .int .i64 0]) ∧ At w' lo g [] (k + 1) ∧ w.grownBy w' (some g) := by
  obtain ⟨A, n, c, h1, h2, h3, h4⟩ := h
  have hn : n = 0 := h4.1.symm
  subst hn
  have hc0 := cells2_0 h1
  have hc1 := cells2_1 h1
  have H1 := Lib.hid h1
  have H3 := Lib.hid h3
  clear h1 h3 h4
  go_enter Try.func52, Try.ntmps52
  go_wp2
  go_ret2
  exact ⟨rfl, ⟨A, 0, c, cells2_set1 H1.out _, h2, H3.out, Span.nil _ _ _ _⟩, grown_setCell _ _ _⟩

theorem Next_one (lo g : Nat) (x : UInt8) (k s : Int) (w : World) (h : At w lo g [x] k) (hk : -9223372036854775808 ≤ k) (hk2 : k < 9223372036854775807) :
    Calls Try.prog 52 #[ptr g, .int .i64 s] w fun e w' => e = .returned (.tuple #[.int .i64 (Plan.out x.toNat), .int .i64 (Plan.wrt x.toNat s)]) ∧ At w' lo g [] (k + 1) ∧ w.grownBy w' (some g) := by
  obtain ⟨A, n, c, h1, h2, h3, h4⟩ := h
  have hn : n = 1 := h4.1.symm
  subst hn
  obtain ⟨b, off, rfl, _, hlt, hx⟩ := h4.2 0 (by simp)
  replace hx : w.cell? ⟨b, off, none⟩ = some (.int .u8 (x.toNat : Int)) := by simpa using hx
  have hbd := u8_bd x
  obtain ⟨z, hz⟩ : ∃ z, z = (x.toNat : Int) := ⟨_, rfl⟩
  rw [← hz] at hx hbd ⊢
  have hO := fun w => outcome_any z hbd.1 hbd.2 w
  have hW := fun w => written_any z s hbd.1 hbd.2 w
  have HO := Lib.hid hO
  have HW := Lib.hid hW
  generalize Plan.out z = o at HO ⊢
  generalize Plan.wrt z s = q at HW ⊢
  have hc1 := cells2_1 h1
  have H1 := Lib.hid h1
  have H3 := Lib.hid h3
  have HX := Lib.hid hx
  have hne : b ≠ g := by omega
  clear h1 h3 h4 hx hz hO hW
  go_enter Try.func52, Try.ntmps52
  go_upto_region 2 with fail
  refine at_wld ?_
  intro X hX
  have h1 : X.heap[g]? = some (.cells #[.slice (some ⟨b, off, none⟩) 1 c, .int .i64 (k + 1)] 99 (0, 0)) := by rw [hX]; exact cells2_set1 H1.out _
  have hg : w.grownBy X (some g) := by rw [hX]; exact grown_setCell _ _ _
  have hx : X.cell? ⟨b, off, none⟩ = some (.int .u8 z) := by rw [hX, World.cell?_of_block (w := w) (Below.heap_setCell _ _ _ _ hne)]; exact HX.out
  have hc0 := cells2_0 h1
  replace H1 := Lib.hid h1
  have HG := Lib.hid hg
  clear hX hc1 h1 hg
  go_wp2_with fail
  refine (behind_one ⟨b, off, none⟩ c X h2).mono ?_
  rintro e X2 ⟨A2, rfl, hw⟩; subst X2
  go_upto_region 6 with fail
  refine at_wld ?_
  intro Y hY
  have HG2 : Hid (X.grownBy Y (some g)) := by rw [hY]; exact grown_setCell _ _ _
  have H2 : Hid (Y.heap[g]? = some (.cells #[.slice A2 0 0, .int .i64 (k + 1)] 99 (0, 0))) := by rw [hY]; exact cells2_set0 H1.out _
  clear hY hc0 hx
  go_wp2_with fail
  refine (HO.out Y).mono ?_
  rintro e Y2 ⟨rfl, hw⟩; subst Y2
  go_wp2_with fail
  refine (HW.out Y).mono ?_
  rintro e Y2 ⟨rfl, hw⟩; subst Y2
  go_wp2
  go_ret2
  exact ⟨rfl, ⟨A2, 0, 0, H2.out, Nat.le_refl _, Nat.zero_le _, Span.nil _ _ _ _⟩, HG.out.trans HG2.out⟩
theorem Next_more (lo g : Nat) (x y : UInt8) (r : List UInt8) (k s : Int) (w : World) (h : At w lo g (x :: y :: r) k) (hk : -9223372036854775808 ≤ k) (hk2 : k < 9223372036854775807) :
    Calls Try.prog 52 #[ptr g, .int .i64 s] w fun e w' => e = .returned (.tuple #[.int .i64 (Plan.out x.toNat), .int .i64 (Plan.wrt x.toNat s)]) ∧ At w' lo g (y :: r) (k + 1) ∧ w.grownBy w' (some g) := by
  obtain ⟨A, n, c, h1, h2, h3, h4⟩ := h
  obtain ⟨m, hm⟩ : ∃ m, m = r.length := ⟨_, rfl⟩
  have hn : n = m + 2 := by rw [hm]; exact h4.1.symm
  subst hn
  have HM := Lib.hid hm
  have hm2 : m + 2 ≤ 9223372036854775807 := Nat.le_trans h2 h3
  obtain ⟨b, off, rfl, _, hlt, hx⟩ := h4.2 0 (by simp)
  replace hx : w.cell? ⟨b, off, none⟩ = some (.int .u8 (x.toNat : Int)) := by simpa using hx
  have hbd := u8_bd x
  obtain ⟨z, hz⟩ : ∃ z, z = (x.toNat : Int) := ⟨_, rfl⟩
  rw [← hz] at hx hbd ⊢
  have hO := fun w => outcome_any z hbd.1 hbd.2 w
  have hW := fun w => written_any z s hbd.1 hbd.2 w
  have HO := Lib.hid hO
  have HW := Lib.hid hW
  generalize Plan.out z = o at HO ⊢
  generalize Plan.wrt z s = q at HW ⊢
  have hc1 := cells2_1 h1
  have H1 := Lib.hid h1
  have H0 := Lib.hid h1
  have H4 := Lib.hid h4
  have HX := Lib.hid hx
  have hne : b ≠ g := by omega
  clear h1 h3 h4 hx hz hO hW hm
  go_enter Try.func52, Try.ntmps52
  go_upto_region 2 with fail
  refine at_wld ?_
  intro X hX
  have h1 : X.heap[g]? = some (.cells #[.slice (some ⟨b, off, none⟩) (m + 2) c, .int .i64 (k + 1)] 99 (0, 0)) := by rw [hX]; exact cells2_set1 H1.out _
  have hg : w.grownBy X (some g) := by rw [hX]; exact grown_setCell _ _ _
  have hx : X.cell? ⟨b, off, none⟩ = some (.int .u8 z) := by rw [hX, World.cell?_of_block (w := w) (Below.heap_setCell _ _ _ _ hne)]; exact HX.out
  have hc0 := cells2_0 h1
  replace H1 := Lib.hid h1
  have HG := Lib.hid hg
  clear hX hc1 h1 hg
  go_wp2_with fail
  refine (behind_more b off m c X h2 hm2).mono ?_
  rintro e X2 ⟨rfl, hw⟩; subst X2
  go_upto_region 6 with fail
  refine at_wld ?_
  intro Y hY
  have HG2 : Hid (X.grownBy Y (some g)) := by rw [hY]; exact grown_setCell _ _ _
  have H2 : Hid (Y.heap[g]? = some (.cells #[.slice (some ⟨b, off + 1, none⟩) (m + 1) (m + 1), .int .i64 (k + 1)] 99 (0, 0))) := by rw [hY]; exact cells2_set0 H1.out _
  clear hY hc0 hx
  go_wp2_with fail
  refine (HO.out Y).mono ?_
  rintro e Y2 ⟨rfl, hw⟩; subst Y2
  go_wp2_with fail
  refine (HW.out Y).mono ?_
  rintro e Y2 ⟨rfl, hw⟩; subst Y2
  go_wp2
  go_ret2
  have hg := HG.out.trans HG2.out
  have hgs : g < w.heap.size := (Array.getElem?_eq_some_iff.1 H0.out).1
  refine ⟨rfl, ⟨_, m + 1, m + 1, H2.out, Nat.le_refl _, Nat.le_trans (by omega) hm2, by rw [HM.out]; rfl, fun i hi => ?_⟩, hg⟩
  obtain ⟨b2, off2, e2, hl2, hb2, hc2⟩ := H4.out.2 (i + 1) (by simpa using hi)
  injection e2 with e2
  injection e2 with e2 e3
  subst e2 e3
  refine ⟨b, off + 1, rfl, hl2, hb2, ?_⟩
  rw [World.cell?_of_block (w := w) (hg.block b (by omega) (by intro e; injection e; omega)), Nat.add_assoc, Nat.add_comm 1 i]
  simpa using hc2

theorem Next_any (lo g : Nat) (xs : List UInt8) (k s : Int) (w : World) (h : At w lo g xs k) (hk : -9223372036854775808 ≤ k) (hk2 : k < 9223372036854775807) :
    Calls Try.prog 52 #[ptr g, .int .i64 s] w fun e w' => e = .returned (.tuple #[.int .i64 (Plan.says xs), .int .i64 (Plan.many xs s)]) ∧ At w' lo g xs.tail (k + 1) ∧ w.grownBy w' (some g) := by
  rcases xs with _ | ⟨x, _ | ⟨y, r⟩⟩
  · exact Next_none lo g k s w h hk hk2
  · exact Next_one lo g x k s w h hk hk2
  · exact Next_more lo g x y r k s w h hk hk2

end Go.Proofs.Ytlmdlhfdacmcnaa.PlanPkg
