/-
  What package ring's 'apply' does with each operation, and 'drop'.
-/
import Derived.Test.YtecmmihobojjpaaRingDel
import Derived.Deep.RegionHeld
namespace Go.Proofs.Ytecmmihobojjpaa.RingPkg
open Go.RowKit Ring
set_option maxRecDepth 4000

theorem Pl.own_v {P : Pl} {b n c : Nat} (h : P.v = .slice (some ⟨b, 0, none⟩) n c) : P.own b := .inr (.inl (by rw [h]; rfl))

section
variable {w : World} {P : Pl} {size t : Int} {rs : List Row}

theorem apply_none (h : Rng w P size t rs) (h0 : 0 ≤ t) (h1 : t + rs.length ≤ 1000000000000) (pos : Int) (hp : ¬ (t ≤ pos ∧ pos < t + rs.length)) (when : Int) (fn : Fn) (cap : Array Value) :
    Calls Try.prog 42 #[ptr P.g, .int .i64 pos, .agg #[.int .i64 when, .func fn #[] cap]] w fun e w' => e = .returned (.int .i64 12) ∧ Below w.heap.size w w' := by
  have hb := (Below.refl w.heap.size w).alloc (Nat.le_refl _) (.cells #[.int .i64 when, .func fn #[] cap] 70)
  have HA : Hid (Calls Try.prog 46 #[ptr P.g, .int .i64 pos] (w.alloc (.cells #[.int .i64 when, .func fn #[] cap] 70)) fun e w' => e = .returned (.pointer none) ∧ Below (w.alloc (.cells #[.int .i64 when, .func fn #[] cap] 70)).heap.size (w.alloc (.cells #[.int .i64 when, .func fn #[] cap] 70)) w') := Lib.hid (by
    by_cases hl : pos < t
    · exact at_low (h.below hb) pos hl
    · exact at_high (h.below hb) h0 h1 pos (by omega))
  have HB := Lib.hid hb
  clear h hp hb
  go_enter Try.func42, Try.ntmps42
  go_wp2_with fail
  refine HA.out.mono ?_
  rintro e w2 ⟨rfl, hb⟩
  replace HB := Lib.hid (below_on HB.out hb HB.out.size)
  clear hb
  go_wp2
  go_ret
  exact ⟨rfl, HB.out⟩

theorem apply_state (h : Rng w P size t rs) (h0 : 0 ≤ t) (h1 : t + rs.length ≤ 1000000000000) (pos : Int) (i : Nat) (r : Row) (hp : pos = t + i) (hr : rs[i]? = some r) (when : Int) (hq : r.q ≠ when) (fn : Fn) (cap : Array Value) :
    Calls Try.prog 42 #[ptr P.g, .int .i64 pos, .agg #[.int .i64 when, .func fn #[] cap]] w fun e w' => e = .returned (.int .i64 13) ∧ Below w.heap.size w w' := by
  have hl := (List.getElem?_eq_some_iff.1 hr).1
  obtain ⟨b, c, hv, _⟩ := h.at_ hr
  have hb := (Below.refl w.heap.size w).alloc (Nat.le_refl _) (.cells #[.int .i64 when, .func fn #[] cap] 70)
  have HA := Lib.hid (at_in (h.below hb) h0 h1 pos i b rs.length c hp hl hv)
  have HR := Lib.hid (h.below hb)
  have HB := Lib.hid hb
  have hx0 : (w.alloc (.cells #[.int .i64 when, .func fn #[] cap] 70)).heap[w.heap.size]? = some (.cells #[.int .i64 when, .func fn #[] cap] 70 (0, 0)) := heap_alloc_new w _
  have HX := Lib.hid hx0
  have HV := Lib.hid hv
  have hqq : (r.q == when) = false := by simpa using hq
  have HRR := Lib.hid hr
  clear h hp hb hx0 hv hr hl
  go_enter Try.func42, Try.ntmps42
  go_wp2_with fail
  refine HA.out.mono ?_
  rintro e w2 ⟨rfl, hb⟩
  have hx := (hb.block w.heap.size (by simp)).trans HX.out
  obtain ⟨x0, _⟩ := cells2_0 hx
  obtain ⟨x1, _⟩ := cells2_1 hx
  obtain ⟨b', c', hv', _, _, _, _, hcl⟩ := (HR.out.below hb).at_ HRR.out
  rw [HV.out] at hv'
  injection hv' with e1 e2 e3
  injection e1 with e1
  injection e1 with e1
  subst e1 e3
  have q5 := (hcl 5 _ rfl).1
  replace HB := Lib.hid (below_on HB.out hb HB.out.size)
  clear hb hx hcl e2 HA HX
  go_wp2
  go_quiet (fail)
  go_wp2
  go_ret
  exact ⟨rfl, below_draws HB.out _⟩
end

theorem apply_take {w : World} {P : Pl} {size t : Int} {rs : List Row} (h : Rng w P size t rs) (h0 : 0 ≤ t) (h1 : t + rs.length ≤ 1000000000000) (pos : Int) (i b n c : Nat) (r : Row) (hp : pos = t + i) (hr : rs[i]? = some r) (hv : P.v = .slice (some ⟨b, 0, none⟩) n c) (when : Int) (hq : r.q = when)
    (Q : World → Prop) (hdo : ∀ w1, Below w.heap.size w w1 → Calls Try.prog 41 #[.pointer (some ⟨b, i * 6, none⟩)] w1 fun e w' => e = .returned (.tuple #[]) ∧ Q w') :
    Calls Try.prog 42 #[ptr P.g, .int .i64 pos, .agg #[.int .i64 when, .func (.func 41) #[] #[]]] w fun e w' => e = .returned (.int .i64 0) ∧ Q w' := by
  have hl := (List.getElem?_eq_some_iff.1 hr).1
  have hb := (Below.refl w.heap.size w).alloc (Nat.le_refl _) (.cells #[.int .i64 when, .func (.func 41) #[] #[]] 70)
  have HA := Lib.hid (at_in (h.below hb) h0 h1 pos i b n c hp hl hv)
  have HR := Lib.hid (h.below hb)
  have HB := Lib.hid hb
  have hx0 : (w.alloc (.cells #[.int .i64 when, .func (.func 41) #[] #[]] 70)).heap[w.heap.size]? = some (.cells #[.int .i64 when, .func (.func 41) #[] #[]] 70 (0, 0)) := heap_alloc_new w _
  have HX := Lib.hid hx0
  have HV := Lib.hid hv
  have HQ := Lib.hid hq
  have HRR := Lib.hid hr
  have HDO := Lib.hid hdo
  clear h hp hb hx0 hv hr hl hq hdo
  go_enter Try.func42, Try.ntmps42
  go_wp2_with fail
  refine HA.out.mono ?_
  rintro e w2 ⟨rfl, hb⟩
  have hx := (hb.block w.heap.size (by simp)).trans HX.out
  obtain ⟨x0, _⟩ := cells2_0 hx
  obtain ⟨x1, _⟩ := cells2_1 hx
  obtain ⟨b', c', hv', _, _, _, _, hcl⟩ := (HR.out.below hb).at_ HRR.out
  rw [HV.out] at hv'
  injection hv' with e1 e2 e3
  injection e1 with e1
  injection e1 with e1
  subst e1 e3
  have q5 := (hcl 5 _ rfl).1
  rw [HQ.out] at q5
  replace HB := Lib.hid (below_on HB.out hb HB.out.size)
  clear hb hx hcl e2 HA HX
  go_wp2
  go_quiet (fail)
  go_wp2_with fail
  refine (HDO.out _ (below_draws HB.out _)).mono ?_
  rintro e w3 ⟨rfl, hQ⟩
  have HQQ := Lib.hid hQ
  clear hQ
  go_wp2
  go_ret
  exact ⟨rfl, HQQ.out⟩

theorem apply_back {w : World} {P : Pl} {size t : Int} {rs : List Row} (h : Rng w P size t rs) (h0 : 0 ≤ t) (h1 : t + rs.length ≤ 1000000000000) (pos : Int) (i b n c : Nat) (r : Row) (hp : pos = t + i) (hr : rs[i]? = some r) (hv : P.v = .slice (some ⟨b, 0, none⟩) n c) (when : Int) (hq : r.q = when)
    (Q : World → Prop) (hdo : ∀ w1, Below w.heap.size w w1 → Calls Try.prog 45 #[.pointer (some ⟨b, i * 6, none⟩)] w1 fun e w' => e = .returned (.tuple #[]) ∧ Q w') :
    Calls Try.prog 42 #[ptr P.g, .int .i64 pos, .agg #[.int .i64 when, .func (.func 45) #[] #[]]] w fun e w' => e = .returned (.int .i64 0) ∧ Q w' := by
  have hl := (List.getElem?_eq_some_iff.1 hr).1
  have hb := (Below.refl w.heap.size w).alloc (Nat.le_refl _) (.cells #[.int .i64 when, .func (.func 45) #[] #[]] 70)
  have HA := Lib.hid (at_in (h.below hb) h0 h1 pos i b n c hp hl hv)
  have HR := Lib.hid (h.below hb)
  have HB := Lib.hid hb
  have hx0 : (w.alloc (.cells #[.int .i64 when, .func (.func 45) #[] #[]] 70)).heap[w.heap.size]? = some (.cells #[.int .i64 when, .func (.func 45) #[] #[]] 70 (0, 0)) := heap_alloc_new w _
  have HX := Lib.hid hx0
  have HV := Lib.hid hv
  have HQ := Lib.hid hq
  have HRR := Lib.hid hr
  have HDO := Lib.hid hdo
  clear h hp hb hx0 hv hr hl hq hdo
  go_enter Try.func42, Try.ntmps42
  go_wp2_with fail
  refine HA.out.mono ?_
  rintro e w2 ⟨rfl, hb⟩
  have hx := (hb.block w.heap.size (by simp)).trans HX.out
  obtain ⟨x0, _⟩ := cells2_0 hx
  obtain ⟨x1, _⟩ := cells2_1 hx
  obtain ⟨b', c', hv', _, _, _, _, hcl⟩ := (HR.out.below hb).at_ HRR.out
  rw [HV.out] at hv'
  injection hv' with e1 e2 e3
  injection e1 with e1
  injection e1 with e1
  subst e1 e3
  have q5 := (hcl 5 _ rfl).1
  rw [HQ.out] at q5
  replace HB := Lib.hid (below_on HB.out hb HB.out.size)
  clear hb hx hcl e2 HA HX
  go_wp2
  go_quiet (fail)
  go_wp2_with fail
  refine (HDO.out _ (below_draws HB.out _)).mono ?_
  rintro e w3 ⟨rfl, hQ⟩
  have HQQ := Lib.hid hQ
  clear hQ
  go_wp2
  go_ret
  exact ⟨rfl, HQQ.out⟩

theorem apply_done {w : World} {P : Pl} {size t : Int} {rs : List Row} (cap : Value) (h : Rng w P size t rs) (h0 : 0 ≤ t) (h1 : t + rs.length ≤ 1000000000000) (pos : Int) (i b n c : Nat) (r : Row) (hp : pos = t + i) (hr : rs[i]? = some r) (hv : P.v = .slice (some ⟨b, 0, none⟩) n c) (when : Int) (hq : r.q = when)
    (Q : World → Prop) (hdo : ∀ w1, Below w.heap.size w w1 → Calls Try.prog 43 #[.pointer (some ⟨b, i * 6, none⟩), cap] w1 fun e w' => e = .returned (.tuple #[]) ∧ Q w') :
    Calls Try.prog 42 #[ptr P.g, .int .i64 pos, .agg #[.int .i64 when, .func (.func 43) #[] #[cap]]] w fun e w' => e = .returned (.int .i64 0) ∧ Q w' := by
  have hl := (List.getElem?_eq_some_iff.1 hr).1
  have hb := (Below.refl w.heap.size w).alloc (Nat.le_refl _) (.cells #[.int .i64 when, .func (.func 43) #[] #[cap]] 70)
  have HA := Lib.hid (at_in (h.below hb) h0 h1 pos i b n c hp hl hv)
  have HR := Lib.hid (h.below hb)
  have HB := Lib.hid hb
  have hx0 : (w.alloc (.cells #[.int .i64 when, .func (.func 43) #[] #[cap]] 70)).heap[w.heap.size]? = some (.cells #[.int .i64 when, .func (.func 43) #[] #[cap]] 70 (0, 0)) := heap_alloc_new w _
  have HX := Lib.hid hx0
  have HV := Lib.hid hv
  have HQ := Lib.hid hq
  have HRR := Lib.hid hr
  have HDO := Lib.hid hdo
  clear h hp hb hx0 hv hr hl hq hdo
  go_enter Try.func42, Try.ntmps42
  go_wp2_with fail
  refine HA.out.mono ?_
  rintro e w2 ⟨rfl, hb⟩
  have hx := (hb.block w.heap.size (by simp)).trans HX.out
  obtain ⟨x0, _⟩ := cells2_0 hx
  obtain ⟨x1, _⟩ := cells2_1 hx
  obtain ⟨b', c', hv', _, _, _, _, hcl⟩ := (HR.out.below hb).at_ HRR.out
  rw [HV.out] at hv'
  injection hv' with e1 e2 e3
  injection e1 with e1
  injection e1 with e1
  subst e1 e3
  have q5 := (hcl 5 _ rfl).1
  rw [HQ.out] at q5
  replace HB := Lib.hid (below_on HB.out hb HB.out.size)
  clear hb hx hcl e2 HA HX
  go_wp2
  go_quiet (fail)
  go_wp2_with fail
  refine (HDO.out _ (below_draws HB.out _)).mono ?_
  rintro e w3 ⟨rfl, hQ⟩
  have HQQ := Lib.hid hQ
  clear hQ
  go_wp2
  go_ret
  exact ⟨rfl, HQQ.out⟩

theorem set_taken {w : World} {P : Pl} {size t : Int} {rs : List Row} (h : Rng w P size t rs) (i b n c : Nat) (r : Row) (hr : rs[i]? = some r) (hv : P.v = .slice (some ⟨b, 0, none⟩) n c) :
    Calls Try.prog 41 #[.pointer (some ⟨b, i * 6, none⟩)] w fun e w' => e = .returned (.tuple #[]) ∧ Rng w' P size t (rs.modify i (Row.out 1)) ∧ Turn P.own P.own w w' := by
  obtain ⟨b', c', hv', _, _, _, _, hcl⟩ := h.at_ hr
  rw [hv] at hv'
  injection hv' with e1 e2 e3
  injection e1 with e1
  injection e1 with e1
  subst e1 e3
  obtain ⟨q5, f5⟩ := hcl 5 _ rfl
  have HEND := Lib.hid (And.intro (h.set_state (i := i) hv 1) (Turn.of_grown (grown_setCell w ⟨b, i * 6 + 5, none⟩ (.int .i64 1)) (Pl.own_v hv)))
  clear hcl h hv e2 hr
  go_enter Try.func41, Try.ntmps41
  go_wp2
  go_end0
  exact ⟨rfl, HEND.out⟩

theorem set_back {w : World} {P : Pl} {size t : Int} {rs : List Row} (h : Rng w P size t rs) (i b n c : Nat) (r : Row) (hr : rs[i]? = some r) (hv : P.v = .slice (some ⟨b, 0, none⟩) n c) :
    Calls Try.prog 45 #[.pointer (some ⟨b, i * 6, none⟩)] w fun e w' => e = .returned (.tuple #[]) ∧ Rng w' P size t (rs.modify i (Row.out 0)) ∧ Turn P.own P.own w w' := by
  obtain ⟨b', c', hv', _, _, _, _, hcl⟩ := h.at_ hr
  rw [hv] at hv'
  injection hv' with e1 e2 e3
  injection e1 with e1
  injection e1 with e1
  subst e1 e3
  obtain ⟨q5, f5⟩ := hcl 5 _ rfl
  have HEND := Lib.hid (And.intro (h.set_state (i := i) hv 0) (Turn.of_grown (grown_setCell w ⟨b, i * 6 + 5, none⟩ (.int .i64 0)) (Pl.own_v hv)))
  clear hcl h hv e2 hr
  go_enter Try.func45, Try.ntmps45
  go_wp2
  go_end0
  exact ⟨rfl, HEND.out⟩

end Go.Proofs.Ytecmmihobojjpaa.RingPkg
