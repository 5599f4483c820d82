/-
  What the document's map of layer 11 does: addr, Set, Move.
-/
import Derived.Test.YtpheblblkkclbaaL2pRefA
namespace Go.Proofs.Ytpheblblkkclbaa.L2pRef
open Go.RowKit Go.ChangeShapes L2p L2pPkg
open Nand (Shape)
set_option maxRecDepth 4000

section
variable {G : Shape} {n : Nat} {w w' : World} {Q : Pr} {st : St}

theorem rall_of (hG : G.Ok) (w : World) : Calls Try.prog 65 #[geoV G] w fun e w' => e = .returned (.int .i64 G.N) ∧ Below w.heap.size w w' := rall_ok hG w

theorem addr_neg (_h : Rf G n w Q st) (lba a : Int) (ha : a < 0) :
    Calls Try.prog 70 #[ptr Q.r 0, .int .i64 lba, .int .i64 a] w fun x w' => x = .returned (.int .i64 1) ∧ Below w.heap.size w w' := by
  go_enter Try.func70, Try.ntmps70
  go_wp2
  go_ret
  exact ⟨rfl, Below.refl _ _⟩

theorem addr_past (hG : G.Ok) (h : Rf G n w Q st) (lba a : Int) (h0 : 0 ≤ a) (h1 : G.N ≤ a) :
    Calls Try.prog 70 #[ptr Q.r 0, .int .i64 lba, .int .i64 a] w fun x w' => x = .returned (.int .i64 1) ∧ Below w.heap.size w w' := by
  obtain ⟨k0, k1, k2, k3, k4, _⟩ := h.cells
  have HA := Lib.hid (rall_of hG w)
  have h2 : ¬ a < 0 := by omega
  clear h hG
  go_enter Try.func70, Try.ntmps70
  go_wp2_with fail
  refine HA.out.mono ?_
  rintro e w2 ⟨rfl, hb⟩
  go_wp2
  go_ret
  exact ⟨rfl, hb⟩

theorem addr_in (hG : G.Ok) (h : Rf G n w Q st) (lba a : Int) (h0 : 0 ≤ a) (h1 : a < G.N) :
    Calls Try.prog 70 #[ptr Q.r 0, .int .i64 lba, .int .i64 a] w fun x w' => x = .returned (.int .i64 (if who st n a ≠ -1 ∧ who st n a ≠ lba then 13 else 0)) ∧ Below w.heap.size w w' := by
  obtain ⟨k0, k1, k2, k3, k4, _⟩ := h.cells
  have HA := Lib.hid (rall_of hG w)
  have h2 : ¬ a < 0 := by omega
  have HL := Lib.hid (fun w' (hb : Below w.heap.size w w') => Live_any (h.below hb) a)
  rw [show liveAt st n G.N a = who st n a by unfold liveAt; rw [if_pos ⟨h0, h1⟩]] at HL
  generalize who st n a = z at HL ⊢
  clear h hG
  by_cases hz : z = -1
  · subst hz
    rw [show liveV (-1) = .tuple #[.int .i64 0, .bool false] from rfl] at HL
    go_enter Try.func70, Try.ntmps70
    go_wp2_with fail
    refine HA.out.mono ?_
    rintro e w2 ⟨rfl, hb⟩
    have HB := Lib.hid hb
    clear hb
    go_wp2_with fail
    refine (HL.out _ HB.out).mono ?_
    rintro e w3 ⟨rfl, hw⟩; subst w3
    go_wp2
    go_ret
    exact ⟨by simp, HB.out⟩
  · rw [show liveV z = .tuple #[.int .i64 z, .bool true] by unfold liveV; simp [hz]] at HL
    by_cases hzl : z = lba
    · subst hzl
      have HZ := Lib.hid hz
      clear hz
      go_enter Try.func70, Try.ntmps70
      go_wp2_with fail
      refine HA.out.mono ?_
      rintro e w2 ⟨rfl, hb⟩
      have HB := Lib.hid hb
      clear hb
      go_wp2_with fail
      refine (HL.out _ HB.out).mono ?_
      rintro e w3 ⟨rfl, hw⟩; subst w3
      go_wp2
      go_ret
      exact ⟨by simp, HB.out⟩
    · have HZ := Lib.hid (And.intro hz hzl)
      have hzb : (z != lba) = true := by simpa using hzl
      clear hz hzl
      go_enter Try.func70, Try.ntmps70
      go_wp2_with fail
      refine HA.out.mono ?_
      rintro e w2 ⟨rfl, hb⟩
      have HB := Lib.hid hb
      clear hb
      go_wp2_with fail
      refine (HL.out _ HB.out).mono ?_
      rintro e w3 ⟨rfl, hw⟩; subst w3
      go_wp2
      go_ret
      exact ⟨rfl, HB.out⟩

/-- What addr answers. -/
def addrK (st : St) (n : Nat) (N lba a : Int) : Int := if ¬ (0 ≤ a ∧ a < N) then 1 else if who st n a ≠ -1 ∧ who st n a ≠ lba then 13 else 0

theorem addr_any (hG : G.Ok) (h : Rf G n w Q st) (lba a : Int) :
    Calls Try.prog 70 #[ptr Q.r 0, .int .i64 lba, .int .i64 a] w fun x w' => x = .returned (.int .i64 (addrK st n G.N lba a)) ∧ Below w.heap.size w w' := by
  unfold addrK
  by_cases h0 : 0 ≤ a
  · by_cases h1 : a < G.N
    · rw [if_neg (fun hh => hh ⟨h0, h1⟩)]
      exact addr_in hG h lba a h0 h1
    · rw [if_pos (fun hh => h1 hh.2)]
      exact addr_past hG h lba a h0 (by omega)
  · rw [if_pos (fun hh => h0 hh.1)]
    exact addr_neg h lba a (by omega)

/-- A sector's entry, stored. -/
theorem Rf.store (h : Rf G n w Q st) (i : Nat) (hi : i < n) (e : Ent) (hI : Inv (put st i e) n G.N) : Rf G n (((w.setCell ⟨Q.g, i * 3, none⟩ (.int .i64 e.a)).setCell ⟨Q.g, i * 3 + 1, none⟩ (.int .i64 e.s)).setCell ⟨Q.g, i * 3 + 2, none⟩ (.int .i64 e.k)) Q (L2p.put st i e) := by
  have hr := ((h.row.set i 0 (by omega) (.int .i64 e.a)).set i 1 (by omega) (.int .i64 e.s)).set i 2 (by omega) (.int .i64 e.k)
  have hl : (rowsOf st n).length = n := rowsOf_len st n
  refine ⟨?_, ?_, h.ne, hI, h.n0, h.n1⟩
  · have hne : ∀ (w : World) (j : Nat) (v : Value), (w.setCell ⟨Q.g, j, none⟩ v).heap[Q.r]? = w.heap[Q.r]? := fun w j v => Below.heap_setCell _ _ _ _ h.ne
    rw [hne, hne, hne]
    exact h.head
  · rw [rowsOf_put st hi]
    have e1 : ((((rowsOf st n).modify i (·.set 0 (.int .i64 e.a))).modify i (·.set 1 (.int .i64 e.s))).modify i (·.set 2 (.int .i64 e.k))) = (rowsOf st n).set i (entL e) := by
      apply List.ext_getElem?
      intro k
      rw [List.getElem?_modify, List.getElem?_modify, List.getElem?_modify]
      by_cases hk : k < n
      · rw [rowsOf_at st hk]
        by_cases e1 : i = k
        · subst e1
          rw [List.getElem?_set_self (by omega)]
          simp [entL]
        · rw [List.getElem?_set_ne e1, rowsOf_at st hk]
          simp [e1]
      · rw [List.getElem?_eq_none (by omega), List.getElem?_eq_none (by rw [List.length_set]; omega)]
        rfl
    rw [e1] at hr
    exact hr

theorem Rf.storeA (h : Rf G n w Q st) (i : Nat) (hi : i < n) (z : Int) (hI : Inv (put st i (moved (st i) z)) n G.N) : Rf G n (w.setCell ⟨Q.g, i * 3, none⟩ (.int .i64 z)) Q (L2p.put st i (moved (st i) z)) := by
  have hr := h.row.set i 0 (by omega) (.int .i64 z)
  have hl : (rowsOf st n).length = n := rowsOf_len st n
  refine ⟨(Below.heap_setCell _ _ _ _ h.ne).trans h.head, ?_, h.ne, hI, h.n0, h.n1⟩
  rw [rowsOf_put st hi]
  have e1 : (rowsOf st n).modify i (·.set 0 (.int .i64 z)) = (rowsOf st n).set i (entL (moved (st i) z)) := by
    apply List.ext_getElem?
    intro k
    rw [List.getElem?_modify]
    by_cases hk : k < n
    · rw [rowsOf_at st hk]
      by_cases e1 : i = k
      · subst e1
        rw [List.getElem?_set_self (by omega)]
        simp [entL, moved]
      · rw [List.getElem?_set_ne e1, rowsOf_at st hk]
        simp [e1]
    · rw [List.getElem?_eq_none (by omega), List.getElem?_eq_none (by rw [List.length_set]; omega)]
      rfl
  rw [e1] at hr
  exact hr


theorem len_yes {n : Nat} {lba : Int} (ht : there lba n) : ¬ lba < 0 ∧ ¬ (n : Int) ≤ lba := by unfold there at ht; omega

theorem Set_range (h : Rf G n w Q st) (lba : Int) (e : Ent) (ht : ¬ there lba n) :
    Calls Try.prog 40 #[ptr Q.r 0, .int .i64 lba, entV e] w fun x w' => x = .returned (setV false 2) ∧ Below w.heap.size w w' := by
  have hX := (Below.refl w.heap.size w).alloc (Nat.le_refl _) (.cells #[.int .i64 e.a, .int .i64 e.s, .int .i64 e.k] 30)
  obtain ⟨_, _, _, _, _, hc⟩ := (h.below hX).cells
  have hf := h.fit
  unfold maxLen at hf
  have HX := Lib.hid hX
  have HT : Hid (¬ there lba n) := Lib.hid ht
  clear h hX ht
  by_cases h0 : lba < 0
  · go_enter Try.func40, Try.ntmps40
    unfold entV
    go_wp2
    go_ret2
    exact ⟨rfl, HX.out⟩
  · have h1 : (n : Int) ≤ lba := by have := HT.out; unfold there at this; omega
    go_enter Try.func40, Try.ntmps40
    unfold entV
    go_wp2
    go_ret2
    exact ⟨rfl, HX.out⟩

theorem addr_of (hG : G.Ok) (h : Rf G n w Q st) (lba a : Int) {f : Int} (hf : addrK st n G.N lba a = f) :
    Calls Try.prog 70 #[ptr Q.r 0, .int .i64 lba, .int .i64 a] w fun x w' => x = .returned (.int .i64 f) ∧ Below w.heap.size w w' := by
  rw [← hf]
  exact addr_any hG h lba a

theorem ebox_new (w : World) (e : Ent) (ob : Obj) (hob : ob = Obj.cells #[.int .i64 e.a, .int .i64 e.s, .int .i64 e.k] 30) : (w.alloc ob).cell? ⟨w.heap.size, 0, none⟩ = some (.int .i64 e.a) ∧ (w.alloc ob).cell? ⟨w.heap.size, 1, none⟩ = some (.int .i64 e.s) ∧ (w.alloc ob).cell? ⟨w.heap.size, 2, none⟩ = some (.int .i64 e.k) := by
  refine ⟨?_, ?_, ?_⟩ <;> (rw [hob]; simp [World.cell?_alloc_at])

theorem Set_arg1 (hG : G.Ok) (h : Rf G n w Q st) (lba : Int) (e : Ent) (ht : there lba n) (hr : ¬ (0 ≤ e.a ∧ e.a < G.N)) :
    Calls Try.prog 40 #[ptr Q.r 0, .int .i64 lba, entV e] w fun x w' => x = .returned (setV false 1) ∧ Below w.heap.size w w' := by
  obtain ⟨ob, hob⟩ : ∃ ob, ob = Obj.cells #[.int .i64 e.a, .int .i64 e.s, .int .i64 e.k] 30 := ⟨_, rfl⟩
  have hX := (Below.refl w.heap.size w).alloc (Nat.le_refl _) ob
  obtain ⟨c0, c1, c2⟩ := ebox_new w e ob hob
  have hh := h.below hX
  obtain ⟨_, _, _, _, _, hc⟩ := hh.cells
  have hf := h.fit
  unfold maxLen at hf
  obtain ⟨l0, l1⟩ := len_yes ht
  have HX := Lib.hid hX
  have HH := Lib.hid hh
  have HA := Lib.hid (addr_of hG hh lba e.a (f := 1) (by unfold addrK; rw [if_pos hr]))
  clear h hh hX ht hG hr
  subst hob
  go_enter Try.func40, Try.ntmps40
  unfold entV
  go_wp2_with fail
  refine HA.out.mono ?_
  rintro e1 w2 ⟨rfl, hb⟩
  replace c0 := cell_stays hb c0
  replace c1 := cell_stays hb c1
  replace c2 := cell_stays hb c2
  replace hc := cell_stays hb hc
  have HB := Lib.hid (below_then HX.out hb)
  replace HH := Lib.hid (HH.out.below hb)
  clear hb
  go_wp2
  go_ret2
  exact ⟨rfl, HB.out⟩

theorem Set_arg2 (hG : G.Ok) (h : Rf G n w Q st) (lba : Int) (e : Ent) (ht : there lba n) (hr : ¬ (1 ≤ e.s ∧ e.s ≤ 1125899906842624 ∧ 1 ≤ e.k ∧ e.k ≤ 2)) (f : Int) (hff : addrK st n G.N lba e.a = f) (hf1 : (f == 1) = false) :
    Calls Try.prog 40 #[ptr Q.r 0, .int .i64 lba, entV e] w fun x w' => x = .returned (setV false 1) ∧ Below w.heap.size w w' := by
  obtain ⟨ob, hob⟩ : ∃ ob, ob = Obj.cells #[.int .i64 e.a, .int .i64 e.s, .int .i64 e.k] 30 := ⟨_, rfl⟩
  have hX := (Below.refl w.heap.size w).alloc (Nat.le_refl _) ob
  obtain ⟨c0, c1, c2⟩ := ebox_new w e ob hob
  have hh := h.below hX
  obtain ⟨_, _, _, _, _, hc⟩ := hh.cells
  have hf := h.fit
  unfold maxLen at hf
  obtain ⟨l0, l1⟩ := len_yes ht
  have HX := Lib.hid hX
  have HH := Lib.hid hh
  have HA := Lib.hid (addr_of hG hh lba e.a hff)
  have HR : Hid _ := Lib.hid hr
  clear h hh hX ht hG hr hff
  subst hob
  by_cases t0 : e.k < 1
  · go_enter Try.func40, Try.ntmps40
    unfold entV
    go_wp2_with fail
    refine HA.out.mono ?_
    rintro e1 w2 ⟨rfl, hb⟩
    replace c0 := cell_stays hb c0
    replace c1 := cell_stays hb c1
    replace c2 := cell_stays hb c2
    replace hc := cell_stays hb hc
    have HB := Lib.hid (below_then HX.out hb)
    replace HH := Lib.hid (HH.out.below hb)
    clear hb
    go_wp2
    go_ret2
    exact ⟨rfl, HB.out⟩
  by_cases t1 : 2 < e.k
  · go_enter Try.func40, Try.ntmps40
    unfold entV
    go_wp2_with fail
    refine HA.out.mono ?_
    rintro e1 w2 ⟨rfl, hb⟩
    replace c0 := cell_stays hb c0
    replace c1 := cell_stays hb c1
    replace c2 := cell_stays hb c2
    replace hc := cell_stays hb hc
    have HB := Lib.hid (below_then HX.out hb)
    replace HH := Lib.hid (HH.out.below hb)
    clear hb
    go_wp2
    go_ret2
    exact ⟨rfl, HB.out⟩
  by_cases t2 : e.s < 1
  · go_enter Try.func40, Try.ntmps40
    unfold entV
    go_wp2_with fail
    refine HA.out.mono ?_
    rintro e1 w2 ⟨rfl, hb⟩
    replace c0 := cell_stays hb c0
    replace c1 := cell_stays hb c1
    replace c2 := cell_stays hb c2
    replace hc := cell_stays hb hc
    have HB := Lib.hid (below_then HX.out hb)
    replace HH := Lib.hid (HH.out.below hb)
    clear hb
    go_wp2
    go_ret2
    exact ⟨rfl, HB.out⟩
  have t3 : 1125899906842624 < e.s := by have := HR.out; omega
  go_enter Try.func40, Try.ntmps40
  unfold entV
  go_wp2_with fail
  refine HA.out.mono ?_
  rintro e1 w2 ⟨rfl, hb⟩
  replace c0 := cell_stays hb c0
  replace c1 := cell_stays hb c1
  replace c2 := cell_stays hb c2
  replace hc := cell_stays hb hc
  have HB := Lib.hid (below_then HX.out hb)
  replace HH := Lib.hid (HH.out.below hb)
  clear hb
  go_wp2
  go_ret2
  exact ⟨rfl, HB.out⟩

theorem Set_state (hG : G.Ok) (h : Rf G n w Q st) (lba : Int) (e : Ent) (ht : there lba n) (hr : right G.N e) (ho : who st n e.a ≠ -1 ∧ who st n e.a ≠ lba) :
    Calls Try.prog 40 #[ptr Q.r 0, .int .i64 lba, entV e] w fun x w' => x = .returned (setV false 13) ∧ Below w.heap.size w w' := by
  obtain ⟨r0, r1, r2, r3, r4, r5⟩ := hr
  obtain ⟨ob, hob⟩ : ∃ ob, ob = Obj.cells #[.int .i64 e.a, .int .i64 e.s, .int .i64 e.k] 30 := ⟨_, rfl⟩
  have hX := (Below.refl w.heap.size w).alloc (Nat.le_refl _) ob
  obtain ⟨c0, c1, c2⟩ := ebox_new w e ob hob
  have hh := h.below hX
  obtain ⟨_, _, _, _, _, hc⟩ := hh.cells
  have hf := h.fit
  unfold maxLen at hf
  obtain ⟨l0, l1⟩ := len_yes ht
  have HX := Lib.hid hX
  have HH := Lib.hid hh
  have HA := Lib.hid (addr_of hG hh lba e.a (f := 13) (by unfold addrK; rw [if_neg (fun hh => hh ⟨r0, r1⟩), if_pos ho]))
  clear h hh hX ht hG ho r0 r1
  subst hob
  go_enter Try.func40, Try.ntmps40
  unfold entV
  go_wp2_with fail
  refine HA.out.mono ?_
  rintro e1 w2 ⟨rfl, hb⟩
  replace c0 := cell_stays hb c0
  replace c1 := cell_stays hb c1
  replace c2 := cell_stays hb c2
  replace hc := cell_stays hb hc
  have HB := Lib.hid (below_then HX.out hb)
  replace HH := Lib.hid (HH.out.below hb)
  clear hb
  go_wp2
  go_ret2
  exact ⟨rfl, HB.out⟩

theorem Set_old (hG : G.Ok) (h : Rf G n w Q st) (i : Nat) (hi : i < n) (e : Ent) (hr : right G.N e) (ho : ¬ (who st n e.a ≠ -1 ∧ who st n e.a ≠ (i : Int))) (hs : e.s ≤ (st i).s) :
    Calls Try.prog 40 #[ptr Q.r 0, .int .i64 (i : Int), entV e] w fun x w' => x = .returned (setV false 0) ∧ Below w.heap.size w w' := by
  obtain ⟨r0, r1, r2, r3, r4, r5⟩ := hr
  have ht : there (i : Int) n := ⟨by omega, by omega⟩
  obtain ⟨ob, hob⟩ : ∃ ob, ob = Obj.cells #[.int .i64 e.a, .int .i64 e.s, .int .i64 e.k] 30 := ⟨_, rfl⟩
  have hX := (Below.refl w.heap.size w).alloc (Nat.le_refl _) ob
  obtain ⟨c0, c1, c2⟩ := ebox_new w e ob hob
  have hh := h.below hX
  obtain ⟨_, _, _, _, _, hc⟩ := hh.cells
  have hf := h.fit
  unfold maxLen at hf
  obtain ⟨l0, l1⟩ := len_yes ht
  have HX := Lib.hid hX
  have HH := Lib.hid hh
  have HA := Lib.hid (addr_of hG hh (i : Int) e.a (f := 0) (by unfold addrK; rw [if_neg (fun hh => hh ⟨r0, r1⟩), if_neg ho]))
  have hi' : (i : Int) < n := by omega
  clear h hh hX ht hG ho r0 r1
  subst hob
  go_enter Try.func40, Try.ntmps40
  unfold entV
  go_wp2_with fail
  refine HA.out.mono ?_
  rintro e1 w2 ⟨rfl, hb⟩
  replace c0 := cell_stays hb c0
  replace c1 := cell_stays hb c1
  replace c2 := cell_stays hb c2
  replace hc := cell_stays hb hc
  have HB := Lib.hid (below_then HX.out hb)
  replace HH := Lib.hid (HH.out.below hb)
  clear hb
  obtain ⟨⟨_, q1, _⟩, _⟩ := HH.out.at hi
  generalize (st i).s = z at q1 hs
  have hs2 : decide (e.s ≤ z) = true := decide_eq_true hs
  clear hs
  go_wp2_with fail
  go_quiet (fail)
  go_wp2
  go_ret2
  exact ⟨rfl, below_drewN HB.out _⟩

theorem Set_new (hG : G.Ok) (h : Rf G n w Q st) (i : Nat) (hi : i < n) (e : Ent) (hr : right G.N e) (ho : ¬ (who st n e.a ≠ -1 ∧ who st n e.a ≠ (i : Int))) (hs : (st i).s < e.s) :
    Calls Try.prog 40 #[ptr Q.r 0, .int .i64 (i : Int), entV e] w fun x w' => x = .returned (setV true 0) ∧ Rf G n w' Q (put st i e) ∧ Turn Q.own Q.own w w' := by
  have HINV := Lib.hid (h.inv.put hr (free_of (i := i) h.inv hr.1 (by omega)))
  obtain ⟨r0, r1, r2, r3, r4, r5⟩ := hr
  have ht : there (i : Int) n := ⟨by omega, by omega⟩
  obtain ⟨ob, hob⟩ : ∃ ob, ob = Obj.cells #[.int .i64 e.a, .int .i64 e.s, .int .i64 e.k] 30 := ⟨_, rfl⟩
  have hX := (Below.refl w.heap.size w).alloc (Nat.le_refl _) ob
  obtain ⟨c0, c1, c2⟩ := ebox_new w e ob hob
  have hh := h.below hX
  obtain ⟨_, _, _, _, _, hc⟩ := hh.cells
  have hf := h.fit
  unfold maxLen at hf
  obtain ⟨l0, l1⟩ := len_yes ht
  have HX := Lib.hid hX
  have HH := Lib.hid hh
  have HA := Lib.hid (addr_of hG hh (i : Int) e.a (f := 0) (by unfold addrK; rw [if_neg (fun hh => hh ⟨r0, r1⟩), if_neg ho]))
  have hi' : (i : Int) < n := by omega
  clear h hh hX ht hG ho r0 r1
  subst hob
  go_enter Try.func40, Try.ntmps40
  unfold entV
  go_wp2_with fail
  refine HA.out.mono ?_
  rintro e1 w2 ⟨rfl, hb⟩
  replace c0 := cell_stays hb c0
  replace c1 := cell_stays hb c1
  replace c2 := cell_stays hb c2
  replace hc := cell_stays hb hc
  have HB := Lib.hid (below_then HX.out hb)
  replace HH := Lib.hid (HH.out.below hb)
  clear hb
  obtain ⟨⟨q0, q1, q2⟩, hz⟩ := HH.out.at hi
  have z0 := hz 0 (by omega)
  have z1 := hz 1 (by omega)
  have z2 := hz 2 (by omega)
  rw [Nat.add_zero] at z0
  generalize (st i).s = z at q1 hs
  generalize (st i).a = z' at q0
  generalize (st i).k = z'' at q2
  have hs2 : decide (e.s ≤ z) = false := decide_eq_false (by omega)
  have HN : Hid (i < n) := Lib.hid hi
  clear hs hz
  go_wp2_with fail
  go_quiet (fail)
  go_wp2_with fail
  refine at_wld ?_
  intro X hX
  have HX2 := Lib.hid (show Rf G n X Q st by rw [hX]; exact HH.out.below (below_drewN (Below.refl _ _) _))
  have HB2 := Lib.hid (show Below w.heap.size w X by rw [hX]; exact below_drewN HB.out _)
  replace c0 : X.cell? ⟨w.heap.size, 0, none⟩ = some (.int .i64 e.a) := by rw [hX]; exact c0
  replace c1 : X.cell? ⟨w.heap.size, 1, none⟩ = some (.int .i64 e.s) := by rw [hX]; exact c1
  replace c2 : X.cell? ⟨w.heap.size, 2, none⟩ = some (.int .i64 e.k) := by rw [hX]; exact c2
  replace hc : X.cell? ⟨Q.r, 5, none⟩ = some (.slice (some ⟨Q.g, 0, none⟩) n Q.cp) := by rw [hX]; exact hc
  replace q0 : X.cell? ⟨Q.g, i * 3, none⟩ = some (.int .i64 z') := by rw [hX]; exact q0
  replace q1 : X.cell? ⟨Q.g, i * 3 + 1, none⟩ = some (.int .i64 z) := by rw [hX]; exact q1
  replace q2 : X.cell? ⟨Q.g, i * 3 + 2, none⟩ = some (.int .i64 z'') := by rw [hX]; exact q2
  replace z0 : X.frozen? ⟨Q.g, i * 3, none⟩ = false := by rw [hX]; exact z0
  replace z1 : X.frozen? ⟨Q.g, i * 3 + 1, none⟩ = false := by rw [hX]; exact z1
  replace z2 : X.frozen? ⟨Q.g, i * 3 + 2, none⟩ = false := by rw [hX]; exact z2
  clear hX HB HH
  go_region
  go_wp2
  go_ret2
  have hst := HX2.out.store i HN.out e HINV.out
  have hdr : ∀ b, Q.own b → b < X.heap.size := HX2.out.lt
  refine ⟨rfl, ?_, ?_⟩
  · first | exact hst | exact hst.below (Below.refl _ _).drew
  · exact ((Turn.of_below _ HB2.out).trans (((Turn.of_set (.inr rfl)).trans (Turn.of_set (.inr rfl))).trans (Turn.of_set (.inr rfl)))).trans (Turn.of_below _ (Below.refl _ _).drew)

theorem Set_any (hG : G.Ok) (h : Rf G n w Q st) (lba : Int) (e : Ent) :
    Calls Try.prog 40 #[ptr Q.r 0, .int .i64 lba, entV e] w fun x w' => x = .returned (setV (setDo st n G.N lba e) (setOk st n G.N lba e)) ∧ Rf G n w' Q (setSt st n G.N lba e) ∧ Turn Q.own Q.own w w' := by
  have keep : ∀ {w'}, Below w.heap.size w w' → Rf G n w' Q st ∧ Turn Q.own Q.own w w' := fun hb => ⟨h.below hb, Turn.of_below _ hb⟩
  by_cases ht : there lba n
  · by_cases hr : right G.N e
    · by_cases ho : who st n e.a ≠ -1 ∧ who st n e.a ≠ lba
      · have e1 : setOk st n G.N lba e = 13 := by unfold setOk; rw [if_neg (fun hh => hh ht), if_neg (fun hh => hh hr), if_pos ho]
        have e2 : setDo st n G.N lba e = false := by unfold setDo; rw [e1]; simp
        have e3 : setSt st n G.N lba e = st := by unfold setSt; rw [e2]; simp
        rw [e1, e2, e3]
        exact (Set_state hG h lba e ht hr ho).mono fun x w' hh => ⟨hh.1, keep hh.2⟩
      · have e1 : setOk st n G.N lba e = 0 := by unfold setOk; rw [if_neg (fun hh => hh ht), if_neg (fun hh => hh hr), if_neg ho]
        obtain ⟨i, rfl⟩ := Int.eq_ofNat_of_zero_le ht.1
        have hi : i < n := by have := ht.2; omega
        by_cases hs : e.s ≤ (st i).s
        · have e2 : setDo st n G.N i e = false := by unfold setDo; rw [e1]; simp; omega
          have e3 : setSt st n G.N i e = st := by unfold setSt; rw [e2]; simp
          rw [e1, e2, e3]
          exact (Set_old hG h i hi e hr ho hs).mono fun x w' hh => ⟨hh.1, keep hh.2⟩
        · have e2 : setDo st n G.N i e = true := by unfold setDo; rw [e1]; simp; omega
          have e3 : setSt st n G.N i e = put st i e := by unfold setSt; rw [e2]; simp
          rw [e1, e2, e3]
          exact Set_new hG h i hi e hr ho (by omega)
    · have e1 : setOk st n G.N lba e = 1 := by unfold setOk; rw [if_neg (fun hh => hh ht), if_pos hr]
      have e2 : setDo st n G.N lba e = false := by unfold setDo; rw [e1]; simp
      have e3 : setSt st n G.N lba e = st := by unfold setSt; rw [e2]; simp
      rw [e1, e2, e3]
      by_cases hin : 0 ≤ e.a ∧ e.a < G.N
      · have hff : (addrK st n G.N lba e.a == 1) = false := by
          unfold addrK
          rw [if_neg (fun hh => hh hin)]
          split <;> rfl
        exact (Set_arg2 hG h lba e ht (fun hh => hr ⟨hin.1, hin.2, hh⟩) _ rfl hff).mono fun x w' hh => ⟨hh.1, keep hh.2⟩
      · exact (Set_arg1 hG h lba e ht hin).mono fun x w' hh => ⟨hh.1, keep hh.2⟩
  · have e1 : setOk st n G.N lba e = 2 := by unfold setOk; rw [if_pos (show ¬ (0 ≤ lba ∧ lba < n) from ht)]
    have e2 : setDo st n G.N lba e = false := by unfold setDo; rw [e1]; simp
    have e3 : setSt st n G.N lba e = st := by unfold setSt; rw [e2]; simp
    rw [e1, e2, e3]
    exact (Set_range h lba e ht).mono fun x w' hh => ⟨hh.1, keep hh.2⟩

theorem Move_range (h : Rf G n w Q st) (lba fr to : Int) (ht : ¬ there lba n) :
    Calls Try.prog 41 #[ptr Q.r 0, .int .i64 lba, .int .i64 fr, .int .i64 to] w fun x w' => x = .returned (setV false 2) ∧ Below w.heap.size w w' := by
  obtain ⟨_, _, _, _, _, hc⟩ := h.cells
  have hf := h.fit
  unfold maxLen at hf
  have HT : Hid (¬ there lba n) := Lib.hid ht
  clear h ht
  by_cases h0 : lba < 0
  · go_enter Try.func41, Try.ntmps41
    go_wp2
    go_ret2
    exact ⟨rfl, Below.refl _ _⟩
  · have h1 : (n : Int) ≤ lba := by have := HT.out; unfold there at this; omega
    go_enter Try.func41, Try.ntmps41
    go_wp2
    go_ret2
    exact ⟨rfl, Below.refl _ _⟩

theorem Move_err (hG : G.Ok) (h : Rf G n w Q st) (lba fr to : Int) (ht : there lba n) (f : Int) (hf : addrK st n G.N lba to = f) (hf0 : (f != 0) = true) :
    Calls Try.prog 41 #[ptr Q.r 0, .int .i64 lba, .int .i64 fr, .int .i64 to] w fun x w' => x = .returned (setV false f) ∧ Below w.heap.size w w' := by
  obtain ⟨_, _, _, _, _, hc⟩ := h.cells
  have hfi := h.fit
  unfold maxLen at hfi
  obtain ⟨l0, l1⟩ := len_yes ht
  have HA := Lib.hid (addr_of hG h lba to hf)
  clear h ht hG hf
  go_enter Try.func41, Try.ntmps41
  go_wp2_with fail
  refine HA.out.mono ?_
  rintro e1 w2 ⟨rfl, hb⟩
  go_wp2
  go_ret2
  exact ⟨rfl, hb⟩

theorem Move_no (hG : G.Ok) (h : Rf G n w Q st) (i : Nat) (hi : i < n) (fr to : Int) (hf : addrK st n G.N i to = 0) (hm : (st i).a = -1 ∨ (st i).a ≠ fr) :
    Calls Try.prog 41 #[ptr Q.r 0, .int .i64 (i : Int), .int .i64 fr, .int .i64 to] w fun x w' => x = .returned (setV false 0) ∧ Below w.heap.size w w' := by
  have ht : there (i : Int) n := ⟨by omega, by omega⟩
  obtain ⟨_, _, _, _, _, hc⟩ := h.cells
  have hfi := h.fit
  unfold maxLen at hfi
  obtain ⟨l0, l1⟩ := len_yes ht
  have hi' : (i : Int) < n := by omega
  have HA := Lib.hid (addr_of hG h i to hf)
  have HAT := Lib.hid (h.at hi).1.1
  by_cases hn : fr < 0
  · clear h ht hG hf hm hi
    go_enter Try.func41, Try.ntmps41
    go_wp2_with fail
    refine HA.out.mono ?_
    rintro e1 w2 ⟨rfl, hb⟩
    go_wp2
    go_ret2
    exact ⟨rfl, hb⟩
  · have hne : ((st i).a != fr) = true := by simp; omega
    generalize (st i).a = z at hne HAT
    have q := HAT.out
    clear h ht hG hf hm
    go_enter Try.func41, Try.ntmps41
    go_wp2_with fail
    refine HA.out.mono ?_
    rintro e1 w2 ⟨rfl, hb⟩
    replace hc := cell_stays hb hc
    replace q := cell_stays hb q
    have HB := Lib.hid hb
    clear hb
    go_wp2
    go_ret2
    exact ⟨rfl, HB.out⟩

theorem Move_yes (hG : G.Ok) (h : Rf G n w Q st) (i : Nat) (hi : i < n) (fr to : Int) (h0 : 0 ≤ to) (h1 : to < G.N) (ho : ¬ (who st n to ≠ -1 ∧ who st n to ≠ (i : Int))) (hm : (st i).a ≠ -1) (hf : (st i).a = fr) :
    Calls Try.prog 41 #[ptr Q.r 0, .int .i64 (i : Int), .int .i64 fr, .int .i64 to] w fun x w' => x = .returned (setV true 0) ∧ Rf G n w' Q (put st i (moved (st i) to)) ∧ Turn Q.own Q.own w w' := by
  have HINV := Lib.hid (h.inv.put (moved_right h.inv hi hm h0 h1) (free_of (i := i) h.inv h0 (by show who st n to = -1 ∨ who st n to = (i : Int); omega)))
  have ht : there (i : Int) n := ⟨by omega, by omega⟩
  obtain ⟨_, _, _, _, _, hc⟩ := h.cells
  have hfi := h.fit
  unfold maxLen at hfi
  obtain ⟨l0, l1⟩ := len_yes ht
  have hi' : (i : Int) < n := by omega
  have HA := Lib.hid (addr_of hG h i to (f := 0) (by unfold addrK; rw [if_neg (fun hh => hh ⟨h0, h1⟩), if_neg ho]))
  have hfr : ¬ fr < 0 := by rcases h.inv.a_bd hi with ⟨h2, _⟩ | ⟨h2, _⟩ <;> omega
  have q := (h.at hi).1.1
  have z0 := (h.at hi).2 0 (by omega)
  rw [Nat.add_zero] at z0
  have H := Lib.hid h
  have HI : Hid (i < n) := Lib.hid hi
  rw [hf] at q
  clear h ht hG hf hm h0 h1 ho
  go_enter Try.func41, Try.ntmps41
  go_wp2_with fail
  refine HA.out.mono ?_
  rintro e1 w2 ⟨rfl, hb⟩
  replace hc := cell_stays hb hc
  replace z0 := (hb.frozen (World.block_lt_of_cell? _ _ q)).trans z0
  replace q := cell_stays hb q
  have HB := Lib.hid hb
  clear hb
  go_wp2
  go_ret2
  exact ⟨rfl, (H.out.below HB.out).storeA i HI.out to HINV.out, (Turn.of_below _ HB.out).trans (Turn.of_set (.inr rfl))⟩

theorem Move_any (hG : G.Ok) (h : Rf G n w Q st) (lba fr to : Int) :
    Calls Try.prog 41 #[ptr Q.r 0, .int .i64 lba, .int .i64 fr, .int .i64 to] w fun x w' => x = .returned (setV (moveDo st n G.N lba fr to) (moveOk st n G.N lba to)) ∧ Rf G n w' Q (moveSt st n G.N lba fr to) ∧ Turn Q.own Q.own w w' := by
  have keep : ∀ {w'}, Below w.heap.size w w' → Rf G n w' Q st ∧ Turn Q.own Q.own w w' := fun hb => ⟨h.below hb, Turn.of_below _ hb⟩
  by_cases ht : there lba n
  · have hk : moveOk st n G.N lba to = addrK st n G.N lba to := by unfold moveOk addrK; rw [if_neg (fun hh => hh ht)]
    by_cases hz : addrK st n G.N lba to = 0
    · rw [hk, hz]
      obtain ⟨i, rfl⟩ := Int.eq_ofNat_of_zero_le ht.1
      have hi : i < n := by have := ht.2; omega
      by_cases hs : (st i).a ≠ -1 ∧ (st i).a = fr
      · have e2 : moveDo st n G.N i fr to = true := by unfold moveDo; rw [hk, hz]; exact decide_eq_true ⟨rfl, hs⟩
        have e3 : moveSt st n G.N i fr to = put st i (moved (st i) to) := by unfold moveSt; rw [e2]; simp
        rw [e2, e3]
        have hin : 0 ≤ to ∧ to < G.N := by
          unfold addrK at hz
          split at hz
          · simp at hz
          · rename_i hh
            omega
        have ho : ¬ (who st n to ≠ -1 ∧ who st n to ≠ (i : Int)) := by
          unfold addrK at hz
          rw [if_neg (fun hh => hh hin)] at hz
          split at hz
          · simp at hz
          · assumption
        exact Move_yes hG h i hi fr to hin.1 hin.2 ho hs.1 hs.2
      · have e2 : moveDo st n G.N i fr to = false := by unfold moveDo; rw [hk, hz]; exact decide_eq_false fun hh => hs hh.2
        have e3 : moveSt st n G.N i fr to = st := by unfold moveSt; rw [e2]; simp
        rw [e2, e3]
        exact (Move_no hG h i hi fr to hz (by omega)).mono fun x w' hh => ⟨hh.1, keep hh.2⟩
    · have e2 : moveDo st n G.N lba fr to = false := by unfold moveDo; rw [hk]; exact decide_eq_false fun hh => hz hh.1
      have e3 : moveSt st n G.N lba fr to = st := by unfold moveSt; rw [e2]; simp
      rw [hk, e2, e3]
      exact (Move_err hG h lba fr to ht _ rfl (by simpa using hz)).mono fun x w' hh => ⟨hh.1, keep hh.2⟩
  · have e1 : moveOk st n G.N lba to = 2 := by unfold moveOk; rw [if_pos (show ¬ (0 ≤ lba ∧ lba < n) from ht)]
    have e2 : moveDo st n G.N lba fr to = false := by unfold moveDo; rw [e1]; simp
    have e3 : moveSt st n G.N lba fr to = st := by unfold moveSt; rw [e2]; simp
    rw [e1, e2, e3]
    exact (Move_range h lba fr to ht).mono fun x w' hh => ⟨hh.1, keep hh.2⟩

end
end Go.Proofs.Ytpheblblkkclbaa.L2pRef
