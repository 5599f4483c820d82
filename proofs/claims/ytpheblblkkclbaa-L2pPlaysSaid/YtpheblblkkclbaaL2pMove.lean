/-
  What package l2p does: Set, Move.
-/
import Derived.Test.YtpheblblkkclbaaL2pSet
namespace Go.Proofs.Ytpheblblkkclbaa.L2pPkg
open Go.RowKit Go.ChangeShapes L2p
open Nand (Shape)
set_option maxRecDepth 4000

section
variable {G : Shape} {n : Nat} {w w' : World} {P : Pl} {st : St}

theorem hasI_is (h : Mp G n w P st) (a : Int) {t : Bool} (ht : (decide (0 ≤ a) && decide (a < G.N)) = t) :
    Calls Try.prog 47 #[ptr P.g 10, .int .i64 a] w fun x w' => x = .returned (.bool t) ∧ w' = w := by
  have := hasI_any P.g 10 G.N a w h.q.cI.1
  rwa [ht] at this

def setV (b : Bool) (e : Int) : Value := .tuple #[.bool b, .int .i64 e]

theorem Set_range (h : Mp G n w P st) (lba : Int) (e : Ent) (ht : ¬ there lba n) :
    Calls Try.prog 19 #[ptr P.g 0, .int .i64 lba, entV e] w fun x w' => x = .returned (setV false 2) ∧ Below w.heap.size w w' := by
  have hX := (Below.refl w.heap.size w).alloc (Nat.le_refl _) (.cells #[.int .i64 e.a, .int .i64 e.s, .int .i64 e.k] 30)
  have HH := Lib.hid (hasE_no (h.below hX) ht)
  have HX := Lib.hid hX
  clear h ht hX
  go_enter Try.func19, Try.ntmps19
  unfold entV
  go_wp2_with fail
  refine HH.out.mono ?_
  rintro e w2 ⟨rfl, hw⟩; subst w2
  go_wp2
  go_ret2
  exact ⟨rfl, HX.out⟩

/-- The cells of a boxed entry, and the number of addresses. -/
abbrev EBox (w : World) (b : Nat) (x y z : Int) (g : Nat) (N : Int) : Prop := w.cell? ⟨b, 0, none⟩ = some (.int .i64 x) ∧ w.cell? ⟨b, 1, none⟩ = some (.int .i64 y) ∧ w.cell? ⟨b, 2, none⟩ = some (.int .i64 z) ∧ w.cell? ⟨g, 10, none⟩ = some (.int .i64 N)

theorem ebox_keep {w w' : World} {b g : Nat} {x y z N : Int} (h : EBox w b x y z g N) (hb : Below w.heap.size w w') : EBox w' b x y z g N :=
  ⟨cell_stays hb h.1, cell_stays hb h.2.1, cell_stays hb h.2.2.1, cell_stays hb h.2.2.2⟩

theorem ebox_new (h : Mp G n w P st) (e : Ent) (ob : Obj) (hob : ob = Obj.cells #[.int .i64 e.a, .int .i64 e.s, .int .i64 e.k] 30) : EBox (w.alloc ob) w.heap.size e.a e.s e.k P.g G.N := by
  have hX := (Below.refl w.heap.size w).alloc (Nat.le_refl _) ob
  refine ⟨?_, ?_, ?_, cell_stays hX h.q.cI.1⟩ <;> (rw [hob]; simp [World.cell?_alloc_at])

theorem hasI_cell {g : Nat} {N : Int} {w : World} (hc : w.cell? ⟨g, 10, none⟩ = some (.int .i64 N)) (a : Int) {t : Bool} (ht : (decide (0 ≤ a) && decide (a < N)) = t) :
    Calls Try.prog 47 #[ptr g 10, .int .i64 a] w fun x w' => x = .returned (.bool t) ∧ w' = w := by
  have := hasI_any g 10 N a w hc
  rwa [ht] at this

theorem Set_arg (h : Mp G n w P st) (lba : Int) (e : Ent) (ht : there lba n) (hr : ¬ right G.N e) :
    Calls Try.prog 19 #[ptr P.g 0, .int .i64 lba, entV e] w fun x w' => x = .returned (setV false 1) ∧ Below w.heap.size w w' := by
  obtain ⟨ob, hob⟩ : ∃ ob, ob = Obj.cells #[.int .i64 e.a, .int .i64 e.s, .int .i64 e.k] 30 := ⟨_, rfl⟩
  have hX := (Below.refl w.heap.size w).alloc (Nat.le_refl _) ob
  obtain ⟨c0, c1, c2, c3⟩ := ebox_new h e ob hob
  have hh := h.below hX
  have HH := Lib.hid (hasE_yes hh ht)
  have HX := Lib.hid hX
  by_cases hin : 0 ≤ e.a ∧ e.a < G.N
  · have HI := Lib.hid (fun (w : World) (hc : w.cell? ⟨P.g, 10, none⟩ = some (.int .i64 G.N)) => hasI_cell hc e.a (t := true) (by simpa using hin))
    have HM := Lib.hid (fun w => show Calls Try.prog 48 #[entV e] w fun x w' => x = .returned (.bool false) ∧ Below w.heap.size w w' by
      have := mayBe_any e w
      rwa [show decide (1 ≤ e.s ∧ e.s ≤ 1125899906842624 ∧ 1 ≤ e.k ∧ e.k ≤ 2) = false from decide_eq_false (fun hh => hr ⟨hin.1, hin.2, hh⟩)] at this)
    clear h hh hX ht hr hin
    subst hob
    go_enter Try.func19, Try.ntmps19
    unfold entV
    go_wp2_with fail
    refine HH.out.mono ?_
    rintro e w2 ⟨rfl, hw⟩; subst w2
    go_wp2_with fail
    go_region_held (fun w' => w'.cell? ⟨w.heap.size, 0, none⟩ = some (.int .i64 e.a) ∧ w'.cell? ⟨w.heap.size, 1, none⟩ = some (.int .i64 e.s) ∧ w'.cell? ⟨w.heap.size, 2, none⟩ = some (.int .i64 e.k) ∧ w'.cell? ⟨P.g, 10, none⟩ = some (.int .i64 G.N)) (first | exact ⟨c0, c1, c2, c3⟩ | exact ebox_keep (by assumption) hb)
      (first
        | (go_at_call 47; refine (HI.out _ (by assumption)).mono ?_; rintro e w2 ⟨rfl, hw⟩; subst w2)
        | (go_at_call 48; refine (HM.out _).mono ?_; rintro e w2 ⟨rfl, hb⟩))
    go_wp2
    go_ret2
    exact ⟨rfl, below_then HX.out.drew hb⟩
  · have HI := Lib.hid (fun (w : World) (hc : w.cell? ⟨P.g, 10, none⟩ = some (.int .i64 G.N)) => hasI_cell hc e.a (t := false) (by simpa using hin))
    clear h hh hX ht hr hin
    subst hob
    go_enter Try.func19, Try.ntmps19
    unfold entV
    go_wp2_with fail
    refine HH.out.mono ?_
    rintro e w2 ⟨rfl, hw⟩; subst w2
    go_wp2_with fail
    go_quiet (first
      | (go_at_call 47; refine Calls.quiet_of_same (HI.out _ c3)))
    go_wp2
    go_ret2
    exact ⟨rfl, below_drewN HX.out _⟩

theorem isOthers_of (h : Mp G n w P st) (hN : G.N ≤ 65536) (lba a : Int) (h0 : 0 ≤ a) (h1 : a < G.N) {t : Bool} (ht : decide (who st n a ≠ -1 ∧ who st n a ≠ lba) = t) :
    Calls Try.prog 49 #[ptr P.g 0, .int .i64 lba, .int .i64 a] w fun x w' => x = .returned (.bool t) ∧ w' = w := by
  rw [← ht]
  exact isOthers_any h hN lba a h0 h1

theorem field_s (a s k : Int) (w : World) : (Instr.field 30 (.agg #[.int .i64 a, .int .i64 s, .int .i64 k]) 1).run Try.prog w = .ok (.int .i64 s) w := by kernel_rfl

theorem Set_state (h : Mp G n w P st) (hN : G.N ≤ 65536) (lba : Int) (e : Ent) (ht : there lba n) (hr : right G.N e) (ho : who st n e.a ≠ -1 ∧ who st n e.a ≠ lba) :
    Calls Try.prog 19 #[ptr P.g 0, .int .i64 lba, entV e] w fun x w' => x = .returned (setV false 13) ∧ Below w.heap.size w w' := by
  obtain ⟨ob, hob⟩ : ∃ ob, ob = Obj.cells #[.int .i64 e.a, .int .i64 e.s, .int .i64 e.k] 30 := ⟨_, rfl⟩
  have hX := (Below.refl w.heap.size w).alloc (Nat.le_refl _) ob
  obtain ⟨c0, c1, c2, c3⟩ := ebox_new h e ob hob
  have hh := h.below hX
  have HH := Lib.hid (hasE_yes hh ht)
  have HX := Lib.hid hX
  have HO := Lib.hid (fun w' (hb : Below (w.alloc ob).heap.size (w.alloc ob) w') => isOthers_of (hh.below hb) hN lba e.a hr.1 hr.2.1 (t := true) (decide_eq_true ho))
  have HI := Lib.hid (fun (w : World) (hc : w.cell? ⟨P.g, 10, none⟩ = some (.int .i64 G.N)) => hasI_cell hc e.a (t := true) (by simpa using ⟨hr.1, hr.2.1⟩))
  have HM := Lib.hid (fun w => show Calls Try.prog 48 #[entV e] w fun x w' => x = .returned (.bool true) ∧ Below w.heap.size w w' by
    have := mayBe_any e w
    rwa [decide_eq_true hr.2.2] at this)
  clear h hh hX ht hr ho
  subst hob
  go_enter Try.func19, Try.ntmps19
  unfold entV
  go_wp2_with fail
  refine HH.out.mono ?_
  rintro e1 w2 ⟨rfl, hw⟩; subst w2
  go_wp2_with fail
  go_region_held (fun w' => w'.cell? ⟨w.heap.size, 0, none⟩ = some (.int .i64 e.a) ∧ w'.cell? ⟨w.heap.size, 1, none⟩ = some (.int .i64 e.s) ∧ w'.cell? ⟨w.heap.size, 2, none⟩ = some (.int .i64 e.k) ∧ w'.cell? ⟨P.g, 10, none⟩ = some (.int .i64 G.N)) (first | exact ⟨c0, c1, c2, c3⟩ | exact ebox_keep (by assumption) hb)
    (first
      | (go_at_call 47; refine (HI.out _ (by assumption)).mono ?_; rintro e1 w2 ⟨rfl, hw⟩; subst w2)
      | (go_at_call 48; refine (HM.out _).mono ?_; rintro e1 w2 ⟨rfl, hb⟩))
  rename_i hHeld
  replace hb := (Below.refl (w.alloc (.cells #[.int .i64 e.a, .int .i64 e.s, .int .i64 e.k] 30)).heap.size (w.alloc (.cells #[.int .i64 e.a, .int .i64 e.s, .int .i64 e.k] 30))).drew.trans hb
  clear c0 c1 c2 c3
  obtain ⟨c0, c1, c2, c3⟩ := hHeld
  have HO2 := Lib.hid (HO.out w2 hb)
  have HB := Lib.hid hb
  clear hb HO HM HI HH c3
  go_wp2_with fail
  refine HO2.out.mono ?_
  rintro e1 w3 ⟨rfl, hw⟩; subst w3
  go_wp2
  go_ret2
  exact ⟨rfl, below_then HX.out HB.out⟩

theorem ebox3_keep {w w' : World} {b : Nat} {x y z : Int} (h : w.cell? ⟨b, 0, none⟩ = some (.int .i64 x) ∧ w.cell? ⟨b, 1, none⟩ = some (.int .i64 y) ∧ w.cell? ⟨b, 2, none⟩ = some (.int .i64 z)) (hb : Below w.heap.size w w') :
    w'.cell? ⟨b, 0, none⟩ = some (.int .i64 x) ∧ w'.cell? ⟨b, 1, none⟩ = some (.int .i64 y) ∧ w'.cell? ⟨b, 2, none⟩ = some (.int .i64 z) :=
  ⟨cell_stays hb h.1, cell_stays hb h.2.1, cell_stays hb h.2.2⟩

theorem Set_old (h : Mp G n w P st) (hN : G.N ≤ 65536) (i : Nat) (hi : i < n) (e : Ent) (hr : right G.N e) (ho : ¬ (who st n e.a ≠ -1 ∧ who st n e.a ≠ (i : Int))) (hs : e.s ≤ (st i).s) :
    Calls Try.prog 19 #[ptr P.g 0, .int .i64 (i : Int), entV e] w fun x w' => x = .returned (setV false 0) ∧ Below w.heap.size w w' := by
  have ht : there (i : Int) n := ⟨by omega, by omega⟩
  obtain ⟨ob, hob⟩ : ∃ ob, ob = Obj.cells #[.int .i64 e.a, .int .i64 e.s, .int .i64 e.k] 30 := ⟨_, rfl⟩
  have hX := (Below.refl w.heap.size w).alloc (Nat.le_refl _) ob
  obtain ⟨c0, c1, c2, c3⟩ := ebox_new h e ob hob
  have hh := h.below hX
  have HH := Lib.hid (hasE_yes hh ht)
  have HX := Lib.hid hX
  have HO := Lib.hid (fun w' (hb : Below (w.alloc ob).heap.size (w.alloc ob) w') => isOthers_of (hh.below hb) hN (i : Int) e.a hr.1 hr.2.1 (t := false) (decide_eq_false ho))
  have HI := Lib.hid (fun (w : World) (hc : w.cell? ⟨P.g, 10, none⟩ = some (.int .i64 G.N)) => hasI_cell hc e.a (t := true) (by simpa using ⟨hr.1, hr.2.1⟩))
  have HM := Lib.hid (fun w => show Calls Try.prog 48 #[entV e] w fun x w' => x = .returned (.bool true) ∧ Below w.heap.size w w' by
    have := mayBe_any e w
    rwa [decide_eq_true hr.2.2] at this)
  have HGT := Lib.hid (fun w' (hb : Below (w.alloc ob).heap.size (w.alloc ob) w') => getE_is (hh.below hb) i hi)
  generalize st i = E at HGT hs
  have hs2 : decide (e.s ≤ E.s) = true := decide_eq_true hs
  clear h hh hX ht hr ho
  subst hob
  go_enter Try.func19, Try.ntmps19
  unfold entV
  go_wp2_with fail
  refine HH.out.mono ?_
  rintro e1 w2 ⟨rfl, hw⟩; subst w2
  go_wp2_with fail
  go_region_held (fun w' => w'.cell? ⟨w.heap.size, 0, none⟩ = some (.int .i64 e.a) ∧ w'.cell? ⟨w.heap.size, 1, none⟩ = some (.int .i64 e.s) ∧ w'.cell? ⟨w.heap.size, 2, none⟩ = some (.int .i64 e.k) ∧ w'.cell? ⟨P.g, 10, none⟩ = some (.int .i64 G.N)) (first | exact ⟨c0, c1, c2, c3⟩ | exact ebox_keep (by assumption) hb)
    (first
      | (go_at_call 47; refine (HI.out _ (by assumption)).mono ?_; rintro e1 w2 ⟨rfl, hw⟩; subst w2)
      | (go_at_call 48; refine (HM.out _).mono ?_; rintro e1 w2 ⟨rfl, hb⟩))
  rename_i hHeld
  replace hb := (Below.refl (w.alloc (.cells #[.int .i64 e.a, .int .i64 e.s, .int .i64 e.k] 30)).heap.size (w.alloc (.cells #[.int .i64 e.a, .int .i64 e.s, .int .i64 e.k] 30))).drew.trans hb
  clear c0 c1 c2 c3
  obtain ⟨c0, c1, c2, c3⟩ := hHeld
  have HO2 := Lib.hid (HO.out w2 hb)
  have HB := Lib.hid hb
  clear hb HO HM HI HH c3
  go_wp2_with fail
  refine HO2.out.mono ?_
  rintro e1 w3 ⟨rfl, hw⟩; subst w3
  have hB := HB.out.drew
  have hfd := fun w => field_s E.a E.s E.k w
  go_wp2_with fail
  go_region_held (fun w' => w'.cell? ⟨w.heap.size, 0, none⟩ = some (.int .i64 e.a) ∧ w'.cell? ⟨w.heap.size, 1, none⟩ = some (.int .i64 e.s) ∧ w'.cell? ⟨w.heap.size, 2, none⟩ = some (.int .i64 e.k)) (first | exact ⟨c0, c1, c2⟩ | exact ebox3_keep (by assumption) hb)
    (first
      | (go_at_call 30; refine (HGT.out _ hB).mono ?_; rintro e1 w3 ⟨rfl, hb⟩; unfold entV))
  rename_i hHeld
  clear hB c0 c1 c2
  obtain ⟨c0, c1, c2⟩ := hHeld
  replace HB := Lib.hid (HB.out.drew.trans (hb.mono HB.out.drew.size))
  clear hb
  go_wp2
  go_ret2
  exact ⟨rfl, below_then HX.out HB.out⟩

set_option maxHeartbeats 1000000 in
theorem Set_new (h : Mp G n w P st) (hN : G.N ≤ 65536) (i : Nat) (hi : i < n) (e : Ent) (hr : right G.N e) (ho : ¬ (who st n e.a ≠ -1 ∧ who st n e.a ≠ (i : Int))) (hs : (st i).s < e.s) :
    Calls Try.prog 19 #[ptr P.g 0, .int .i64 (i : Int), entV e] w fun x w' => x = .returned (setV true 0) ∧ ∃ P' : Pl, P'.g = P.g ∧ Mp G n w' P' (put st i e) ∧ Turn (P.own n G.N.toNat) (P'.own n G.N.toNat) w w' := by
  have ht : there (i : Int) n := ⟨by omega, by omega⟩
  obtain ⟨ob, hob⟩ : ∃ ob, ob = Obj.cells #[.int .i64 e.a, .int .i64 e.s, .int .i64 e.k] 30 := ⟨_, rfl⟩
  have hX := (Below.refl w.heap.size w).alloc (Nat.le_refl _) ob
  obtain ⟨c0, c1, c2, c3⟩ := ebox_new h e ob hob
  have hh := h.below hX
  have HH := Lib.hid (hasE_yes hh ht)
  have HX := Lib.hid hX
  have HO := Lib.hid (fun w' (hb : Below (w.alloc ob).heap.size (w.alloc ob) w') => isOthers_of (hh.below hb) hN (i : Int) e.a hr.1 hr.2.1 (t := false) (decide_eq_false ho))
  have HI := Lib.hid (fun (w : World) (hc : w.cell? ⟨P.g, 10, none⟩ = some (.int .i64 G.N)) => hasI_cell hc e.a (t := true) (by simpa using ⟨hr.1, hr.2.1⟩))
  have HM := Lib.hid (fun w => show Calls Try.prog 48 #[entV e] w fun x w' => x = .returned (.bool true) ∧ Below w.heap.size w w' by
    have := mayBe_any e w
    rwa [decide_eq_true hr.2.2] at this)
  have HGT := Lib.hid (fun w' (hb : Below (w.alloc ob).heap.size (w.alloc ob) w') => getE_is (hh.below hb) i hi)
  have HST := Lib.hid (fun w' (hb : Below (w.alloc ob).heap.size (w.alloc ob) w') => store_any (hh.below hb) hN i hi e hr (free_of h.inv hr.1 (by omega)))
  generalize st i = E at HGT hs
  have hs2 : decide (e.s ≤ E.s) = false := decide_eq_false (by omega)
  clear h hh hX ht hr ho
  subst hob
  go_enter Try.func19, Try.ntmps19
  unfold entV
  go_wp2_with fail
  refine HH.out.mono ?_
  rintro e1 w2 ⟨rfl, hw⟩; subst w2
  go_wp2_with fail
  go_region_held (fun w' => w'.cell? ⟨w.heap.size, 0, none⟩ = some (.int .i64 e.a) ∧ w'.cell? ⟨w.heap.size, 1, none⟩ = some (.int .i64 e.s) ∧ w'.cell? ⟨w.heap.size, 2, none⟩ = some (.int .i64 e.k) ∧ w'.cell? ⟨P.g, 10, none⟩ = some (.int .i64 G.N)) (first | exact ⟨c0, c1, c2, c3⟩ | exact ebox_keep (by assumption) hb)
    (first
      | (go_at_call 47; refine (HI.out _ (by assumption)).mono ?_; rintro e1 w2 ⟨rfl, hw⟩; subst w2)
      | (go_at_call 48; refine (HM.out _).mono ?_; rintro e1 w2 ⟨rfl, hb⟩))
  rename_i hHeld
  replace hb := (Below.refl (w.alloc (.cells #[.int .i64 e.a, .int .i64 e.s, .int .i64 e.k] 30)).heap.size (w.alloc (.cells #[.int .i64 e.a, .int .i64 e.s, .int .i64 e.k] 30))).drew.trans hb
  clear c0 c1 c2 c3
  obtain ⟨c0, c1, c2, c3⟩ := hHeld
  have HO2 := Lib.hid (HO.out w2 hb)
  have HB := Lib.hid hb
  clear hb HO HM HI HH c3
  go_wp2_with fail
  refine HO2.out.mono ?_
  rintro e1 w3 ⟨rfl, hw⟩; subst w3
  have hB := HB.out.drew
  have hfd := fun w => field_s E.a E.s E.k w
  go_wp2_with fail
  go_region_held (fun w' => w'.cell? ⟨w.heap.size, 0, none⟩ = some (.int .i64 e.a) ∧ w'.cell? ⟨w.heap.size, 1, none⟩ = some (.int .i64 e.s) ∧ w'.cell? ⟨w.heap.size, 2, none⟩ = some (.int .i64 e.k)) (first | exact ⟨c0, c1, c2⟩ | exact ebox3_keep (by assumption) hb)
    (first
      | (go_at_call 30; refine (HGT.out _ hB).mono ?_; rintro e1 w3 ⟨rfl, hb⟩; unfold entV))
  rename_i hHeld
  clear hB c0 c1 c2
  obtain ⟨c0, c1, c2⟩ := hHeld
  replace HB := Lib.hid (HB.out.drew.trans (hb.mono HB.out.drew.size))
  clear hb
  clear hfd
  have HS2 := Lib.hid (HST.out w3 HB.out)
  go_wp2_with fail
  refine HS2.out.mono ?_
  rintro e1 w4 ⟨rfl, P', hg, hm, ht⟩
  go_wp2
  go_ret2
  exact ⟨rfl, P', hg, hm, (Turn.of_below _ (below_then HX.out HB.out)).trans ht⟩

end
end Go.Proofs.Ytpheblblkkclbaa.L2pPkg
