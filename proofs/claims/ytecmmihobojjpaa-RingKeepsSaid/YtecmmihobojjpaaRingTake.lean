/-
  What package ring's Take, Done, Back, Waiting, Find, Get do, over the slots in memory.
-/
import Derived.Test.YtecmmihobojjpaaRingDrop
namespace Go.Proofs.Ytecmmihobojjpaa.RingPkg
open Go.RowKit Ring
set_option maxRecDepth 4000

theorem data_v {w : World} {P : Pl} {size t : Int} {rs : List Row} (h : Rng w P size t rs) : ∀ r ∈ rs, ∃ A n c, r.v = .slice A n c := fun r hr => by
  obtain ⟨A, c, hv, _⟩ := h.data r hr
  exact ⟨_, _, _, hv⟩

theorem sorted_out {l : List Nat} (h : l.Pairwise (· < ·)) {k i : Nat} (hi : l[k]? = some i) : i ∉ l.take k := by
  intro hm
  obtain ⟨j, hj⟩ := List.getElem?_of_mem hm
  rw [List.getElem?_take] at hj
  split at hj
  · obtain ⟨h1, e1⟩ := List.getElem?_eq_some_iff.1 hj
    obtain ⟨h2, e2⟩ := List.getElem?_eq_some_iff.1 hi
    have := List.pairwise_iff_getElem.1 h j k h1 h2 (by omega)
    omega
  · cases hj

theorem store_func (P : Program) (w : World) (t : TypeId) (x : Value) (fn : Fn) : (store ⟨w.heap.size, 1, none⟩ (.func fn #[] #[])).run P (w.alloc (.cells #[x, .nilFunc] t)) = .ok () (w.alloc (.cells #[x, .func fn #[] #[]] t)) := by
  have hh : (w.alloc (.cells #[x, .nilFunc] t)).heap[w.heap.size]? = some (.cells #[x, .nilFunc] t (0, 0)) := heap_alloc_new w _
  obtain ⟨hc, hf⟩ := cells2_1 hh
  rw [run_store _ _ _ _ _ rfl, hc]
  simp only [hf]
  rw [World.setCell_alloc_new]
  rfl

set_option maxHeartbeats 2000000 in
theorem Take_raw {w : World} {P : Pl} {size t : Int} {rs : List Row} (h : Rng w P size t rs) (h0 : 0 ≤ t) (h1 : t + rs.length ≤ 1000000000000) (n : Int) :
    Calls Try.prog 24 #[ptr P.g, .int .i64 n] w fun e w' => ∃ u, e = .returned u ∧ OwnI w' w.heap.size 3 u (poss t ((sel waitsB rs).take n.toNat)) ∧ Rng w' P size t (Ring.mark (Row.out 1) ((sel waitsB rs).take n.toNat) rs) ∧ Turn P.own P.own w w' := by
  have hlt := h.lt
  have hsel : ∀ (k i : Nat), ((sel waitsB rs).take n.toNat)[k]? = some i → ∃ r, rs[i]? = some r ∧ r.q = 0 := fun k i hi => by
    obtain ⟨r, h1, h2⟩ := sel_is waitsB rs i (List.mem_of_mem_take (List.mem_of_getElem? hi))
    exact ⟨r, h1, by simpa [waitsB] using h2⟩
  have hsort : ((sel waitsB rs).take n.toNat).Pairwise (· < ·) := (sel_sorted waitsB rs).sublist (List.take_sublist _ _)
  have hb := (Below.refl w.heap.size w).alloc (Nat.le_refl _) (.cells #[.int .i64 0, .func (.func 41) #[] #[]] 70)
  have hr1 := h.below hb
  have HPOS := Lib.hid (positions_waits waitsB hr1 h0 h1 n (fun r hr w1 _ => waits_any r w1 (data_v hr1 r hr)))
  have hx0 : (w.alloc (.cells #[.int .i64 0, .func (.func 41) #[] #[]] 70)).heap[w.heap.size]? = some (.cells #[.int .i64 0, .func (.func 41) #[] #[]] 70 (0, 0)) := heap_alloc_new w _
  have HX := Lib.hid hx0
  have HR := Lib.hid hr1
  have HB := Lib.hid hb
  generalize (sel waitsB rs).take n.toNat = ps at HPOS hsel hsort ⊢
  have HSEL := Lib.hid hsel
  have HSORT := Lib.hid hsort
  have HLT := Lib.hid hlt
  have hst := store_func Try.prog w 70 (.int .i64 0) (.func 41)
  clear h hb hr1 hx0 hsel hsort hlt
  go_enter Try.func24, Try.ntmps24
  go_wp2_with fail
  refine HPOS.out.mono ?_
  rintro e w2 ⟨u, rfl, ho, hb⟩
  obtain ⟨A, m, c, rfl⟩ := ho.form
  have hm : ps.length = m := by have := ho.len; simpa [poss, nums] using this
  have HM := Lib.hid hm
  have HO : Hid (OwnI w2 w.heap.size 3 (.slice A m c) (poss t ps)) := Lib.hid (ho.le (by simp))
  replace HX := Lib.hid ((hb.block w.heap.size (by simp)).trans HX.out)
  replace HR := Lib.hid (HR.out.below hb)
  replace HB := Lib.hid (below_on HB.out hb HB.out.size)
  have hmc : m ≤ 9223372036854775807 := by
    rcases Nat.eq_zero_or_pos m with e | e
    · omega
    · obtain ⟨_, _, _, h3, h4⟩ := ho.first e
      exact Nat.le_trans h3 h4
  have hBs : w.heap.size ≤ w2.heap.size := HB.out.size
  clear ho hb hm HPOS
  go_wp2
  go_loopw [15] (fun i wr => ∃ k : Nat, k ≤ m ∧ i = .int .i64 k ∧ Rng wr P size t (Ring.mark (Row.out 1) (ps.take k) rs) ∧ Turn P.own P.own w2 wr) (fun i _ => m - (intOf i).toNat)
  case atStart => exact ⟨0, by omega, rfl, by rw [List.take_zero]; exact HR.out, Turn.refl _ _⟩
  case round =>
    obtain ⟨k, hk, rfl, hr, ht⟩ := hrel
    replace HR := Lib.hid hr
    have HT := Lib.hid ht
    have hO : OwnI wr w.heap.size 3 (.slice A m c) (poss t ps) := HO.out.keep fun b hb => ht.block b (HO.out.lt b hb) (fun ho => by have h2 := HLT.out b ho; have h3 := HO.out.block b hb; omega)
    have HO2 := Lib.hid hO
    clear hr ht hO
    by_cases hlt : k < m
    · obtain ⟨g, rfl, hg, hcc⟩ := HO.out.first (by omega)
      obtain ⟨i, hi⟩ : ∃ i, ps[k]? = some i := ⟨_, List.getElem?_eq_getElem (by rw [HM.out]; exact hlt)⟩
      obtain ⟨r, hri, hrq⟩ := HSEL.out k i hi
      have hri2 : (Ring.mark (Row.out 1) (ps.take k) rs)[i]? = some r := by rw [mark_out _ _ _ _ (sorted_out HSORT.out hi)]; exact hri
      have q0 := (HO2.out.cell (i := k) (z := (i : Int) + t) (by simp [poss, nums, hi])).1
      have hxb : wr.heap[w.heap.size]? = some (.cells #[.int .i64 0, .func (.func 41) #[] #[]] 70 (0, 0)) := by
        rw [HT.out.block w.heap.size (Array.getElem?_eq_some_iff.1 HX.out).1 (fun ho => by have := HLT.out _ ho; omega)]
        exact HX.out
      obtain ⟨x0, _⟩ := cells2_0 hxb
      obtain ⟨x1, _⟩ := cells2_1 hxb
      obtain ⟨z, hz⟩ : ∃ z, z = (i : Int) + t := ⟨_, rfl⟩
      rw [← hz] at q0
      obtain ⟨b, cc, hv, _⟩ := HR.out.at_ hri2
      have hA := apply_take HR.out h0 (by rw [mark_len]; exact h1) z i b _ cc r (by omega) hri2 hv 0 hrq (fun w' => Rng w' P size t (Ring.mark (Row.out 1) (ps.take (k + 1)) rs) ∧ Turn P.own P.own wr w') (fun w1 hb1 => by
        refine (set_taken (HR.out.below hb1) i b _ cc r hri2 hv).mono ?_
        rintro e w' ⟨rfl, hr', ht'⟩
        refine ⟨rfl, ?_, (Turn.of_below _ hb1).trans ht'⟩
        rw [take_snoc ps k i hi, mark_snoc]
        exact hr')
      have HA := Lib.hid hA
      clear hA hxb hv hri2 hri hrq hi hz
      go_wp2_with fail
      refine HA.out.mono ?_
      rintro e w3 ⟨rfl, hr, ht⟩
      replace HR := Lib.hid hr
      replace HT := Lib.hid (HT.out.trans ht)
      clear hr ht HA q0 x0 x1
      go_wp2
      go_roundw
      case rel => exact ⟨k + 1, by omega, by go_num, HR.out, HT.out⟩
      case measure => simp [intOf]; omega
    · have HK := Lib.hid (show ps.length ≤ k by rw [HM.out]; omega)
      go_wp2
      go_ret
      have h := HR.out
      rw [List.take_of_length_le HK.out] at h
      exact ⟨_, rfl, HO2.out, h, (Turn.of_below _ HB.out).trans HT.out⟩

theorem Waiting_raw {w : World} {P : Pl} {size t : Int} {rs : List Row} (h : Rng w P size t rs) (h0 : 0 ≤ t) (h1 : t + rs.length ≤ 1000000000000) :
    Calls Try.prog 15 #[ptr P.g] w fun e w' => e = .returned (.int .i64 (sel waitsB rs).length) ∧ Below w.heap.size w w' := by
  obtain ⟨_, _, hc2⟩ := h.cells
  obtain ⟨A, c, hv, _⟩ := h.slice
  rw [hv] at hc2
  have hp := positions_waits waitsB h h0 h1 rs.length (fun r hr w1 _ => waits_any r w1 (data_v h r hr))
  rw [Int.toNat_natCast, List.take_of_length_le (sel_len _ _)] at hp
  have HP := Lib.hid hp
  clear h hv hp
  generalize rs.length = n at hc2 HP h1
  go_enter Try.func15, Try.ntmps15
  go_wp2_with fail
  refine HP.out.mono ?_
  rintro e w2 ⟨u, rfl, ho, hb⟩
  obtain ⟨A2, m, c2, rfl⟩ := ho.form
  have HM : Hid ((sel waitsB rs).length = m) := Lib.hid (by have := ho.len; simpa [poss, nums] using this)
  have HB := Lib.hid hb
  clear ho hb
  go_wp2
  go_ret
  exact ⟨by rw [HM.out]; rfl, HB.out⟩

/-- Done and Back, refused: the slot is not there. -/
theorem Done_none {w : World} {P : Pl} {size t : Int} {rs : List Row} (h : Rng w P size t rs) (h0 : 0 ≤ t) (h1 : t + rs.length ≤ 1000000000000) (pos : Int) (hp : ¬ (t ≤ pos ∧ pos < t + rs.length)) :
    Calls Try.prog 25 #[ptr P.g, .int .i64 pos] w fun e w' => e = .returned (.int .i64 12) ∧ Below w.heap.size w w' := by
  have hb := (Below.refl w.heap.size w).alloc (Nat.le_refl _) (.cells #[ptr P.g] 23)
  have HA := Lib.hid (apply_none (h.below hb) h0 h1 pos hp 1 (.func 43) #[.pointer (some ⟨w.heap.size, 0, none⟩)])
  have hmf : ∀ (fn : Fn) (first cap : Array Value) (w : World), (Instr.makeFunc fn first cap).run Try.prog w = .ok (.func fn first cap) w := fun _ _ _ _ => rfl
  have HB := Lib.hid hb
  clear h hb hp
  go_enter Try.func25, Try.ntmps25
  go_wp2_with fail
  refine HA.out.mono ?_
  rintro e w2 ⟨rfl, hb⟩
  replace HB := Lib.hid (below_on HB.out hb HB.out.size)
  clear hb HA
  go_wp2
  go_ret
  exact ⟨rfl, HB.out⟩

theorem Done_state {w : World} {P : Pl} {size t : Int} {rs : List Row} (h : Rng w P size t rs) (h0 : 0 ≤ t) (h1 : t + rs.length ≤ 1000000000000) (pos : Int) (i : Nat) (r : Row) (hp : pos = t + i) (hr : rs[i]? = some r) (hq : r.q ≠ 1) :
    Calls Try.prog 25 #[ptr P.g, .int .i64 pos] w fun e w' => e = .returned (.int .i64 13) ∧ Below w.heap.size w w' := by
  have hb := (Below.refl w.heap.size w).alloc (Nat.le_refl _) (.cells #[ptr P.g] 23)
  have HA := Lib.hid (apply_state (h.below hb) h0 h1 pos i r hp hr 1 hq (.func 43) #[.pointer (some ⟨w.heap.size, 0, none⟩)])
  have hmf : ∀ (fn : Fn) (first cap : Array Value) (w : World), (Instr.makeFunc fn first cap).run Try.prog w = .ok (.func fn first cap) w := fun _ _ _ _ => rfl
  have HB := Lib.hid hb
  clear h hb hp hr hq
  go_enter Try.func25, Try.ntmps25
  go_wp2_with fail
  refine HA.out.mono ?_
  rintro e w2 ⟨rfl, hb⟩
  replace HB := Lib.hid (below_on HB.out hb HB.out.size)
  clear hb HA
  go_wp2
  go_ret
  exact ⟨rfl, HB.out⟩

theorem Done_ok {w : World} {P : Pl} {size t : Int} {rs : List Row} (h : Rng w P size t rs) (h0 : 0 ≤ t) (h1 : t + rs.length ≤ 1000000000000) (pos : Int) (i : Nat) (r : Row) (hp : pos = t + i) (hr : rs[i]? = some r) (hq : r.q = 1) :
    Calls Try.prog 25 #[ptr P.g, .int .i64 pos] w fun e w' => e = .returned (.int .i64 0) ∧ ∃ P', P'.g = P.g ∧ Rng w' P' size (t + lead (rs.modify i (Row.out 2))) ((rs.modify i (Row.out 2)).drop (lead (rs.modify i (Row.out 2)))) ∧ Turn P.own P'.own w w' := by
  have hb := (Below.refl w.heap.size w).alloc (Nat.le_refl _) (.cells #[ptr P.g] 23)
  obtain ⟨b, c, hv, _⟩ := h.at_ hr
  have hlt := h.lt
  have hbc : (w.alloc (.cells #[ptr P.g] 23)).cell? ⟨w.heap.size, 0, none⟩ = some (ptr P.g) := by simp [World.cell?_alloc_at]
  have hcell : ∀ w1, Below (w.alloc (.cells #[ptr P.g] 23)).heap.size (w.alloc (.cells #[ptr P.g] 23)) w1 → w1.cell? ⟨w.heap.size, 0, none⟩ = some (ptr P.g) := fun w1 hb1 => by
    rw [hb1.cell (p := ⟨w.heap.size, 0, none⟩) (by simp)]
    exact hbc
  have HA := Lib.hid (apply_done (.pointer (some ⟨w.heap.size, 0, none⟩)) (h.below hb) h0 h1 pos i b _ c r hp hr hv 1 hq (fun w' => ∃ P', P'.g = P.g ∧ Rng w' P' size (t + lead (rs.modify i (Row.out 2))) ((rs.modify i (Row.out 2)).drop (lead (rs.modify i (Row.out 2)))) ∧ Turn P.own P'.own w w') (fun w1 hb1 => by
    refine (set_done ((h.below hb).below hb1) h0 h1 i b _ c w.heap.size r hr hv (hcell w1 hb1) (fun ho => by have := hlt _ ho; omega)).mono ?_
    rintro e w' ⟨rfl, P', hg, hR, hT⟩
    exact ⟨rfl, P', hg, hR, ((Turn.of_below _ hb).trans (Turn.of_below _ hb1)).trans hT⟩))
  have hmf : ∀ (fn : Fn) (first cap : Array Value) (w : World), (Instr.makeFunc fn first cap).run Try.prog w = .ok (.func fn first cap) w := fun _ _ _ _ => rfl
  clear h hb hp hr hq hcell hv hlt hbc
  go_enter Try.func25, Try.ntmps25
  go_wp2_with fail
  refine HA.out.mono ?_
  rintro e w2 ⟨rfl, hE⟩
  have HE := Lib.hid hE
  clear hE HA
  go_wp2
  go_ret
  exact ⟨rfl, HE.out⟩

theorem Back_none {w : World} {P : Pl} {size t : Int} {rs : List Row} (h : Rng w P size t rs) (h0 : 0 ≤ t) (h1 : t + rs.length ≤ 1000000000000) (pos : Int) (hp : ¬ (t ≤ pos ∧ pos < t + rs.length)) :
    Calls Try.prog 26 #[ptr P.g, .int .i64 pos] w fun e w' => e = .returned (.int .i64 12) ∧ Below w.heap.size w w' := by
  have HA := Lib.hid (apply_none h h0 h1 pos hp 1 (.func 45) #[])
  clear h hp
  go_enter Try.func26, Try.ntmps26
  go_wp2_with fail
  refine HA.out.mono ?_
  rintro e w2 ⟨rfl, hb⟩
  have HB := Lib.hid hb
  clear hb HA
  go_wp2
  go_ret
  exact ⟨rfl, HB.out⟩

theorem Back_state {w : World} {P : Pl} {size t : Int} {rs : List Row} (h : Rng w P size t rs) (h0 : 0 ≤ t) (h1 : t + rs.length ≤ 1000000000000) (pos : Int) (i : Nat) (r : Row) (hp : pos = t + i) (hr : rs[i]? = some r) (hq : r.q ≠ 1) :
    Calls Try.prog 26 #[ptr P.g, .int .i64 pos] w fun e w' => e = .returned (.int .i64 13) ∧ Below w.heap.size w w' := by
  have HA := Lib.hid (apply_state h h0 h1 pos i r hp hr 1 hq (.func 45) #[])
  clear h hp hr hq
  go_enter Try.func26, Try.ntmps26
  go_wp2_with fail
  refine HA.out.mono ?_
  rintro e w2 ⟨rfl, hb⟩
  have HB := Lib.hid hb
  clear hb HA
  go_wp2
  go_ret
  exact ⟨rfl, HB.out⟩

theorem Back_ok {w : World} {P : Pl} {size t : Int} {rs : List Row} (h : Rng w P size t rs) (h0 : 0 ≤ t) (h1 : t + rs.length ≤ 1000000000000) (pos : Int) (i : Nat) (r : Row) (hp : pos = t + i) (hr : rs[i]? = some r) (hq : r.q = 1) :
    Calls Try.prog 26 #[ptr P.g, .int .i64 pos] w fun e w' => e = .returned (.int .i64 0) ∧ Rng w' P size t (rs.modify i (Row.out 0)) ∧ Turn P.own P.own w w' := by
  obtain ⟨b, c, hv, _⟩ := h.at_ hr
  have HA := Lib.hid (apply_back h h0 h1 pos i b _ c r hp hr hv 1 hq (fun w' => Rng w' P size t (rs.modify i (Row.out 0)) ∧ Turn P.own P.own w w') (fun w1 hb1 => by
    refine (set_back (h.below hb1) i b _ c r hr hv).mono ?_
    rintro e w' ⟨rfl, hR, hT⟩
    exact ⟨rfl, hR, (Turn.of_below _ hb1).trans hT⟩))
  clear h hp hr hq hv
  go_enter Try.func26, Try.ntmps26
  go_wp2_with fail
  refine HA.out.mono ?_
  rintro e w2 ⟨rfl, hE⟩
  have HE := Lib.hid hE
  clear hE HA
  go_wp2
  go_ret
  exact ⟨rfl, HE.out⟩

theorem Find_raw {w : World} {P : Pl} {size t : Int} {rs : List Row} (h : Rng w P size t rs) (h0 : 0 ≤ t) (h1 : t + rs.length ≤ 1000000000000) (lba : Int) :
    Calls Try.prog 30 #[ptr P.g, .int .i64 lba] w fun e w' => (match (sel (mineB lba) rs).getLast? with | none => e = .returned (.tuple #[.int .i64 0, .bool false]) | some i => e = .returned (.tuple #[.int .i64 (t + i), .bool true])) ∧ Below w.heap.size w w' := by
  have hb := (Below.refl w.heap.size w).alloc (Nat.le_refl _) (.cells #[.int .i64 lba] 3)
  have hr1 := h.below hb
  have hbc : (w.alloc (.cells #[.int .i64 lba] 3)).cell? ⟨w.heap.size, 0, none⟩ = some (.int .i64 lba) := by simp [World.cell?_alloc_at]
  obtain ⟨_, _, hc2⟩ := hr1.cells
  obtain ⟨A, c, hv, _⟩ := h.slice
  rw [hv] at hc2
  have hp := positions_mine (.pointer (some ⟨w.heap.size, 0, none⟩)) (mineB lba) hr1 h0 h1 rs.length (fun r hr w1 hb1 => mine_any lba w.heap.size r w1 (data_v h r hr) (by
    rw [hb1.cell (p := ⟨w.heap.size, 0, none⟩) (by simp)]
    exact hbc))
  rw [Int.toNat_natCast, List.take_of_length_le (sel_len _ _)] at hp
  have HP := Lib.hid hp
  have HB := Lib.hid hb
  have hmf : ∀ (fn : Fn) (first cap : Array Value) (w : World), (Instr.makeFunc fn first cap).run Try.prog w = .ok (.func fn first cap) w := fun _ _ _ _ => rfl
  have hsl : ∀ i ∈ sel (mineB lba) rs, i < rs.length := sel_lt _ _
  clear h hv hp hb hr1 hbc
  generalize rs.length = n at hc2 HP h1 hsl
  have HSL := Lib.hid hsl
  clear hsl
  generalize sel (mineB lba) rs = l at HP HSL ⊢
  cases hl : l.getLast? with
  | none =>
    have hl0 : l = [] := List.getLast?_eq_none_iff.1 hl
    subst hl0
    clear hl
    simp only
    go_enter Try.func30, Try.ntmps30
    go_wp2_with fail
    refine HP.out.mono ?_
    rintro e w2 ⟨u, rfl, ho, hb⟩
    obtain ⟨A2, m, c2, rfl⟩ := ho.form
    obtain rfl : 0 = m := ho.len
    replace HB := Lib.hid (below_on HB.out hb HB.out.size)
    clear ho hb HP
    go_wp2
    go_ret2
    exact ⟨rfl, HB.out⟩
  | some i =>
    obtain ⟨ys, rfl⟩ : ∃ ys, l = ys ++ [i] := List.getLast?_eq_some_iff.1 hl
    have hi := HSL.out i (by simp)
    clear hl
    simp only
    go_enter Try.func30, Try.ntmps30
    go_wp2_with fail
    refine HP.out.mono ?_
    rintro e w2 ⟨u, rfl, ho, hb⟩
    obtain ⟨A2, m, c2, rfl⟩ := ho.form
    obtain rfl : ys.length + 1 = m := by have := ho.len; simpa [poss, nums] using this
    obtain ⟨g, rfl, _, hgc, hcm⟩ := ho.first (by omega)
    have q0 := (ho.cell (i := ys.length) (z := (i : Int) + t) (by simp [poss, nums])).1
    have hcm2 : c2 ≤ 9223372036854775807 := hcm
    replace HB := Lib.hid (below_on HB.out hb HB.out.size)
    clear ho hb HP hcm
    rw [Int.add_comm] at q0
    generalize ys.length = m at q0 hgc
    obtain ⟨z, hz⟩ : ∃ z, z = t + (i : Int) := ⟨_, rfl⟩
    rw [← hz] at q0
    have HZ := Lib.hid hz
    clear hz
    go_wp2
    go_ret2
    exact ⟨by rw [← HZ.out]; rfl, HB.out⟩
end Go.Proofs.Ytecmmihobojjpaa.RingPkg
