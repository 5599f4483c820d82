/-
  A ring beside what a law keeps of it: a slice of the slots that were put, with bytes of their own, a slice of the positions that were done; what each call leaves of all.
-/
import Derived.Test.YtecmmihobojjpaaRingPair
namespace Go.Proofs.Ytecmmihobojjpaa.RingLaw
open Go.RowKit Ring RingPkg
open RingRef (scells infoSl)
set_option maxRecDepth 4000

/-- A ring, the slots ps in the slice pv, the positions ds in the slice dv, the blocks sd beside them: all newer than a, and apart. -/
structure Kp (a : World) (size : Int) (P : RingPkg.Pl) (D : Nat → Prop) (all : All) (pv : Value) (ps : List Slot) (dv : Value) (ds : List Int) (sd : List (Nat × Obj)) (w : World) : Prop where
  ring : Rg w P size all
  up : ∀ b, P.own b → a.heap.size ≤ b
  below : Below a.heap.size a w
  rows : ∃ vs : List Value, vs.length = ps.length ∧ OwnR w a.heap.size 35 5 pv (List.zipWith scells ps vs) ∧ ∀ (i : Nat) s v, ps[i]? = some s → vs[i]? = some v → Dat w D v s.d
  ints : OwnI w a.heap.size 3 dv ds
  p_o : ∀ b, pv.ownBlock = some b → ¬ P.own b ∧ ¬ D b ∧ dv.ownBlock ≠ some b
  d_o : ∀ b, dv.ownBlock = some b → ¬ P.own b ∧ ¬ D b
  dat_o : ∀ b, D b → ¬ P.own b ∧ b < w.heap.size
  side : ∀ q ∈ sd, (¬ P.own q.1 ∧ pv.ownBlock ≠ some q.1 ∧ dv.ownBlock ≠ some q.1) ∧ w.heap[q.1]? = some q.2

section
variable {a w w' : World} {size : Int} {P P' : RingPkg.Pl} {D : Nat → Prop} {all all' : All} {pv dv : Value} {ps : List Slot} {ds : List Int} {sd : List (Nat × Obj)}

theorem zip_scells {vs : List Value} (e : vs.length = ps.length) : (List.zipWith scells ps vs).length = ps.length := by
  rw [List.length_zipWith, e, Nat.min_self]

theorem Kp.p_lt (h : Kp a size P D all pv ps dv ds sd w) : ∀ b, pv.ownBlock = some b → b < w.heap.size := fun b hb => by
  obtain ⟨vs, _, h1, _⟩ := h.rows
  exact h1.lt b hb

theorem Kp.side_lt (h : Kp a size P D all pv ps dv ds sd w) : ∀ q ∈ sd, q.1 < w.heap.size := fun q hq => (Array.getElem?_eq_some_iff.1 (h.side q hq).2).1

/-- The ring has turned. -/
theorem Kp.turn (h : Kp a size P D all pv ps dv ds sd w) (hr : Rg w' P' size all') (ht : Turn P.own P'.own w w') : Kp a size P' D all' pv ps dv ds sd w' := by
  have hno : ∀ b, b < w.heap.size → ¬ P.own b → ¬ P'.own b := fun b hb hn ho => (ht.own b ho).elim hn (fun h => by omega)
  obtain ⟨vs, e, h1, h2⟩ := h.rows
  refine ⟨hr, ht.up h.up h.below.size, below_turn h.below ht h.up h.below.size, ⟨vs, e, h1.keep fun b hb => ht.block b (h.p_lt b hb) (h.p_o b hb).1, fun i s v hs hv => (h2 i s v hs hv).keep (fun _ h => h) fun b hb => ht.block b (h.dat_o b hb).2 (h.dat_o b hb).1⟩,
    h.ints.keep fun b hb => ht.block b (h.ints.lt b hb) (h.d_o b hb).1, fun b hb => ⟨hno b (h.p_lt b hb) (h.p_o b hb).1, (h.p_o b hb).2⟩, fun b hb => ⟨hno b (h.ints.lt b hb) (h.d_o b hb).1, (h.d_o b hb).2⟩,
    fun b hb => ⟨hno b (h.dat_o b hb).2 (h.dat_o b hb).1, Nat.lt_of_lt_of_le (h.dat_o b hb).2 ht.size⟩, fun q hq => ⟨⟨hno _ (h.side_lt q hq) (h.side q hq).1.1, (h.side q hq).1.2⟩, ?_⟩⟩
  rw [ht.block _ (h.side_lt q hq) (h.side q hq).1.1]
  exact (h.side q hq).2

theorem Kp.on (h : Kp a size P D all pv ps dv ds sd w) (hb : Below w.heap.size w w') : Kp a size P D all pv ps dv ds sd w' := h.turn (h.ring.below hb) (Turn.of_below _ hb)

/-- A new block stands beside them. -/
theorem Kp.new (h : Kp a size P D all pv ps dv ds sd w) (cs : Array Value) (t : TypeId) : Kp a size P D all pv ps dv ds ((w.heap.size, .cells cs t (0, 0)) :: sd) (w.alloc (.cells cs t (0, 0))) := by
  have hb : Below w.heap.size w (w.alloc (.cells cs t (0, 0))) := (Below.refl _ _).alloc (Nat.le_refl _) _
  have H := h.on hb
  refine ⟨H.ring, H.up, H.below, H.rows, H.ints, H.p_o, H.d_o, H.dat_o, fun q hq => ?_⟩
  rcases List.mem_cons.1 hq with rfl | hq
  · exact ⟨⟨fun ho => by have := h.ring.lt _ ho; omega, fun ho => by have := h.p_lt _ ho; omega, fun ho => by have := h.ints.lt _ ho; omega⟩, heap_alloc_new w _⟩
  · exact H.side q hq

theorem Kp.drop (h : Kp a size P D all pv ps dv ds sd w) : Kp a size P D all pv ps dv ds [] w := ⟨h.ring, h.up, h.below, h.rows, h.ints, h.p_o, h.d_o, h.dat_o, fun q hq => by simp at hq⟩

/-- A slot more is kept. -/
theorem Kp.put {w3 : World} (h : Kp a size P D all pv ps dv ds sd w) (s : Slot) (v : Value) (hb3 : Below w.heap.size w w3) (ho : Own w3 w.heap.size 5 v s.d) (hd : s.d.length ≤ 100000000000000) (hl : ps.length ≤ 1000000) :
    ∃ v' w4, (Builtin.append_ #[40, 40] 40 #[pv, .slice (some ⟨w3.heap.size, 0, none⟩) 1 1]).run Try.prog (w3.alloc (.cells (scells s v).toArray 35)) = .ok v' w4 ∧ ∃ D', Kp a size P D' all v' (ps ++ [s]) dv ds sd w4 := by
  have h3 := h.on hb3
  obtain ⟨vs, e, h1, h2⟩ := h3.rows
  obtain ⟨v', w4, hrun, hrow, hg, hnew⟩ := run_append_row (P := Try.prog) w3 a.heap.size 40 40 35 5 56 (by omega) (by omega) Try.underlying40 infoSl pv (List.zipWith scells ps vs) h1 (scells s v) rfl
    (by
      obtain ⟨A, c, hv, _⟩ := Lie.of_own ho
      subst hv
      intro u hu
      simp only [scells, List.mem_cons, List.not_mem_nil, or_false] at hu
      rcases hu with rfl | rfl | rfl | rfl | rfl <;> rfl) (by rw [zip_scells e]; omega) h3.below.size
  refine ⟨v', w4, hrun, fun b => D b ∨ (w.heap.size ≤ b ∧ b < w3.heap.size), ?_⟩
  have hs3 := hb3.size
  have hs4 : w3.heap.size + 1 ≤ w4.heap.size := by have := hg.size; simpa using this
  have k4 : ∀ b, b < w3.heap.size → pv.ownBlock ≠ some b → w4.heap[b]? = w3.heap[b]? := fun b hb hn => by
    rw [hg.block b (by simp; omega) (fun e => hn e.symm), Below.heap_alloc w3 _ b hb]
  have hpv' : ∀ b, v'.ownBlock = some b → (pv.ownBlock = some b ∧ b < w.heap.size) ∨ w3.heap.size < b := fun b hb => (hnew b hb).imp (fun h4 => ⟨h4, h.p_lt b h4⟩) id
  have hB : Below w3.heap.size w3 (w3.alloc (.cells (scells s v).toArray 35)) := (Below.refl _ _).alloc (Nat.le_refl _) _
  obtain ⟨A, c, hv, hc1, hc2, hlie⟩ := Lie.of_own ho
  refine ⟨h3.ring.keep (by omega) fun b hb => k4 b (h3.ring.lt b hb) (fun e => (h.p_o b e).1 hb), h.up, ?_, ⟨vs ++ [v], by simp [e], ?_, ?_⟩, ?_, ?_, ?_, ?_, ?_⟩
  · exact (h3.below.alloc h3.below.size _).grown hg (by simp; have := h3.below.size; omega) (fun k hk => h1.block k hk)
  · rw [List.zipWith_append e.symm]
    exact hrow
  · intro i x y hx hy
    rcases Nat.lt_or_ge i ps.length with hi | hi
    · rw [List.getElem?_append_left hi] at hx
      rw [List.getElem?_append_left (by omega)] at hy
      exact (h2 i x y hx hy).keep (fun b hb => .inl hb) (fun b hb => k4 b (h3.dat_o b hb).2 (fun e => (h.p_o b e).2.1 hb))
    · rw [List.getElem?_append_right hi] at hx
      rw [List.getElem?_append_right (by omega)] at hy
      have hz : i - ps.length = 0 := by
        have := (List.getElem?_eq_some_iff.1 hx).1
        simp at this
        omega
      rw [hz] at hx
      rw [e, hz] at hy
      simp at hx hy
      subst hx hy
      exact ⟨A, c, hv, hc1, hc2, hd, hlie.keep (fun b hb => .inr hb) (fun b hb => k4 b hb.2 (fun e => by have := h.p_lt b e; omega))⟩
  · exact h3.ints.keep fun b hb => k4 b (h3.ints.lt b hb) (fun e => (h.p_o b e).2.2 hb)
  · intro b hb
    rcases hpv' b hb with ⟨h4, h5⟩ | h4
    · exact ⟨(h.p_o b h4).1, fun hbd => hbd.elim (h.p_o b h4).2.1 (fun h => by omega), (h.p_o b h4).2.2⟩
    · exact ⟨fun ho => by have := h3.ring.lt b ho; omega, fun hbd => hbd.elim (fun h => by have := (h3.dat_o b h).2; omega) (fun h => by omega), fun e => by have := h3.ints.lt b e; omega⟩
  · intro b hb
    exact ⟨(h.d_o b hb).1, fun hbd => hbd.elim (h.d_o b hb).2 (fun h4 => by have := h.ints.lt b hb; omega)⟩
  · rintro b (hb | hb)
    · exact ⟨(h.dat_o b hb).1, by have := (h3.dat_o b hb).2; omega⟩
    · exact ⟨fun ho => by have := h.ring.lt b ho; omega, by omega⟩
  · intro q hq
    obtain ⟨⟨s1, s2, s3⟩, s4⟩ := h3.side q hq
    have hlt := h3.side_lt q hq
    have hlt0 := h.side_lt q hq
    exact ⟨⟨s1, fun e => (hpv' _ e).elim (fun h5 => s2 h5.1) (fun h5 => by omega), s3⟩, (k4 _ hlt s2).trans s4⟩

/-- A position more is kept. -/
theorem Kp.did (h : Kp a size P D all pv ps dv ds sd w) (z : Int) (hl : ds.length ≤ 1000000) :
    ∃ v' w4, (Builtin.append_ #[41, 41] 41 #[dv, .slice (some ⟨w.heap.size, 0, none⟩) 1 1]).run Try.prog (w.alloc (.cells #[.int .i64 z] 3)) = .ok v' w4 ∧ Kp a size P D all pv ps v' (ds ++ [z]) sd w4 := by
  obtain ⟨v', w4, hrun, hrow, hg, hnew⟩ := RingRef.run_append_int2 (P := Try.prog) w a.heap.size 41 41 3 Try.underlying41 infoI dv ds h.ints z (by omega) h.below.size
  refine ⟨v', w4, hrun, ?_⟩
  have hs4 : w.heap.size + 1 ≤ w4.heap.size := by have := hg.size; simpa using this
  have k4 : ∀ b, b < w.heap.size → dv.ownBlock ≠ some b → w4.heap[b]? = w.heap[b]? := fun b hb hn => by
    rw [hg.block b (by simp; omega) (fun e => hn e.symm), Below.heap_alloc w _ b hb]
  obtain ⟨vs, e, h1, h2⟩ := h.rows
  refine ⟨h.ring.keep (by omega) fun b hb => k4 b (h.ring.lt b hb) (fun e => (h.d_o b e).1 hb), h.up, ?_, ⟨vs, e, h1.keep fun b hb => k4 b (h.p_lt b hb) (h.p_o b hb).2.2, fun i s v hs hv => (h2 i s v hs hv).keep (fun _ h => h) fun b hb => k4 b (h.dat_o b hb).2 (fun e => (h.d_o b e).2 hb)⟩, hrow, ?_, ?_, ?_, ?_⟩
  · exact (h.below.alloc h.below.size _).grown hg (by simp; have := h.below.size; omega) (fun k hk => h.ints.block k hk)
  · intro b hb
    exact ⟨(h.p_o b hb).1, (h.p_o b hb).2.1, fun e => (hnew b e).elim (h.p_o b hb).2.2 (fun h4 => by have := h.p_lt b hb; omega)⟩
  · intro b hb
    rcases hnew b hb with h4 | h4
    · exact h.d_o b h4
    · exact ⟨fun ho => by have := h.ring.lt b ho; omega, fun hd => by have := (h.dat_o b hd).2; omega⟩
  · exact fun b hb => ⟨(h.dat_o b hb).1, by have := (h.dat_o b hb).2; omega⟩
  · intro q hq
    obtain ⟨⟨s1, s2, s3⟩, s4⟩ := h.side q hq
    have hlt := h.side_lt q hq
    exact ⟨⟨s1, s2, fun e => (hnew _ e).elim s3 (fun h5 => by omega)⟩, (k4 _ hlt s3).trans s4⟩
end

/-- The same, the ring by its block alone. -/
def Kq (a : World) (gd : Nat) (size : Int) (all : All) (pv : Value) (ps : List Slot) (dv : Value) (ds : List Int) (sd : List (Nat × Obj)) (w : World) : Prop := ∃ (P : RingPkg.Pl) (D : Nat → Prop), P.g = gd ∧ Kp a size P D all pv ps dv ds sd w

section
variable {a w w' : World} {gd : Nat} {size : Int} {all : All} {pv dv : Value} {ps : List Slot} {ds : List Int} {sd : List (Nat × Obj)}

theorem Kq.below (h : Kq a gd size all pv ps dv ds sd w) : Below a.heap.size a w := by
  obtain ⟨_, _, _, h⟩ := h
  exact h.below
theorem Kq.on (h : Kq a gd size all pv ps dv ds sd w) (hb : Below w.heap.size w w') : Kq a gd size all pv ps dv ds sd w' := by
  obtain ⟨P, D, e, h⟩ := h
  exact ⟨P, D, e, h.on hb⟩
theorem Kq.draws (h : Kq a gd size all pv ps dv ds sd w) (k : Nat) : Kq a gd size all pv ps dv ds sd (w.drewN k) := h.on (below_draws (Below.refl _ _) k)
theorem Kq.new (h : Kq a gd size all pv ps dv ds sd w) (cs : Array Value) (t : TypeId) : Kq a gd size all pv ps dv ds ((w.heap.size, .cells cs t (0, 0)) :: sd) (w.alloc (.cells cs t (0, 0))) := by
  obtain ⟨P, D, e, h⟩ := h
  exact ⟨P, D, e, h.new cs t⟩
theorem Kq.drop (h : Kq a gd size all pv ps dv ds sd w) : Kq a gd size all pv ps dv ds [] w := by
  obtain ⟨P, D, e, h⟩ := h
  exact ⟨P, D, e, h.drop⟩
theorem Kq.at (h : Kq a gd size all pv ps dv ds sd w) {b : Nat} {o : Obj} (hq : (b, o) ∈ sd) : w.heap[b]? = some o := by
  obtain ⟨P, D, e, h⟩ := h
  exact (h.side _ hq).2
theorem Kq.of_mine (h : Mine a gd size all w) : Kq a gd size all (.slice none 0 0) [] (.slice none 0 0) [] [] w := by
  obtain ⟨P, e, h1, h2, h3⟩ := h
  exact ⟨P, fun _ => False, e, h1, h2, h3, ⟨[], rfl, ownR_nil _ _ _ _, fun i s v hs => by simp at hs⟩, ownI_nil _ _ _, fun b hb => by simp [Value.ownBlock] at hb, fun b hb => by simp [Value.ownBlock] at hb, fun b hb => hb.elim, fun q hq => by simp at hq⟩
theorem Kq.put {w3 : World} (h : Kq a gd size all pv ps dv ds sd w) (s : Slot) (v : Value) (hb3 : Below w.heap.size w w3) (ho : Own w3 w.heap.size 5 v s.d) (hd : s.d.length ≤ 100000000000000) (hl : ps.length ≤ 1000000) :
    ∃ v' w4, (Builtin.append_ #[40, 40] 40 #[pv, .slice (some ⟨w3.heap.size, 0, none⟩) 1 1]).run Try.prog (w3.alloc (.cells (scells s v).toArray 35)) = .ok v' w4 ∧ Kq a gd size all v' (ps ++ [s]) dv ds sd w4 := by
  obtain ⟨P, D, e, h⟩ := h
  obtain ⟨v', w4, hrun, D', h4⟩ := h.put s v hb3 ho hd hl
  exact ⟨v', w4, hrun, P, D', e, h4⟩
theorem Kq.did (h : Kq a gd size all pv ps dv ds sd w) (z : Int) (hl : ds.length ≤ 1000000) :
    ∃ v' w4, (Builtin.append_ #[41, 41] 41 #[dv, .slice (some ⟨w.heap.size, 0, none⟩) 1 1]).run Try.prog (w.alloc (.cells #[.int .i64 z] 3)) = .ok v' w4 ∧ Kq a gd size all pv ps v' (ds ++ [z]) sd w4 := by
  obtain ⟨P, D, e, h⟩ := h
  obtain ⟨v', w4, hrun, h4⟩ := h.did z hl
  exact ⟨v', w4, hrun, P, D, e, h4⟩
theorem Kq.pform (h : Kq a gd size all pv ps dv ds sd w) : ∃ A c, pv = .slice A ps.length c ∧ ps.length ≤ c ∧ c ≤ maxLen := by
  obtain ⟨P, D, _, h⟩ := h
  obtain ⟨vs, e, h1, _⟩ := h.rows
  obtain ⟨A, c, h2, h3, h4, _⟩ := h1.form
  rw [zip_scells e] at h2 h3
  exact ⟨A, c, h2, h3, h4⟩
theorem Kq.dform (h : Kq a gd size all pv ps dv ds sd w) : ∃ A c, dv = .slice A ds.length c := by
  obtain ⟨P, D, _, h⟩ := h
  obtain ⟨A, n, c, h1⟩ := h.ints.form
  have h2 := h.ints
  rw [h1] at h2
  exact ⟨A, c, by rw [h1, h2.len]⟩
theorem Kq.ints (h : Kq a gd size all pv ps dv ds sd w) : OwnI w a.heap.size 3 dv ds := by
  obtain ⟨P, D, _, h⟩ := h
  exact h.ints
/-- A kept slot's cells. -/
theorem Kq.slot (h : Kq a gd size all pv ps dv ds sd w) {i : Nat} {s : Slot} (hs : ps[i]? = some s) : ∃ b c Av cv, pv = .slice (some ⟨b, 0, none⟩) ps.length c ∧ ps.length ≤ c ∧ c ≤ maxLen ∧ b < w.heap.size ∧ Bytes w w.heap.size Av s.d.length s.d ∧ ∀ (j : Nat) y, (scells s (.slice Av s.d.length cv))[j]? = some y → w.cell? ⟨b, i * 5 + j, none⟩ = some y := by
  obtain ⟨P, D, _, h⟩ := h
  have hl : i < ps.length := (List.getElem?_eq_some_iff.1 hs).1
  obtain ⟨vs, e, h1, h2⟩ := h.rows
  obtain ⟨A, c, h3, h4, h5, h6⟩ := h1.form
  rw [zip_scells e] at h3 h4 h6
  obtain ⟨b, rfl⟩ := h6 (by omega)
  obtain ⟨v, hv⟩ : ∃ v, vs[i]? = some v := ⟨_, List.getElem?_eq_getElem (by omega)⟩
  obtain ⟨Av, cv, rfl, _, _, _, hlie⟩ := h2 i s v hs hv
  rw [h3] at h1
  refine ⟨b, c, Av, cv, h3, h4, h5, h1.lt b rfl, hlie.bytes (fun b hb => (h.dat_o b hb).2), fun j y hy => ?_⟩
  exact (h1.cell (by rw [List.getElem?_zipWith, hs, hv]) hy).1

theorem Put_full_k (h : Kq a gd size all pv ps dv ds sd w) (hl : all.length ≤ 1000000) (h0 : 0 ≤ size) (h1 : size ≤ 1000000) (hf : size - all.length + tl all = 0) (s : Slot) (v : Value) (hv : ∃ A n c, v = .slice A n c) :
    Calls Try.prog 22 #[ptr gd, slotV s v] w fun e w' => e = .returned (.tuple #[.int .i64 0, .int .i64 11]) ∧ Kq a gd size all pv ps dv ds sd w' := by
  obtain ⟨P, D, rfl, h⟩ := h
  refine (Put_full_rg h.ring hl h0 h1 hf s v hv).mono ?_
  rintro e w' ⟨rfl, hb⟩
  exact ⟨rfl, P, D, rfl, h.on hb⟩

theorem Put_k (h : Kq a gd size all pv ps dv ds sd w) (hl : all.length ≤ 1000000) (h0 : 0 ≤ size) (h1 : size ≤ 1000000) (hf : ¬ size - all.length + tl all = 0) (s : Slot) (A : Option Addr) (n c : Nat) (hn : n ≤ 100000000000000) (hr : Bytes w w.heap.size A n s.d) :
    Calls Try.prog 22 #[ptr gd, slotV s (.slice A n c)] w fun e w' => e = .returned (.tuple #[.int .i64 all.length, .int .i64 0]) ∧ Kq a gd size (all ++ [(s, 0)]) pv ps dv ds sd w' := by
  obtain ⟨P, D, rfl, h⟩ := h
  refine (Put_rg h.ring hl h0 h1 hf s A n c hn hr).mono ?_
  rintro e w' ⟨rfl, P', hg, hr, ht⟩
  exact ⟨rfl, P', D, hg, h.turn hr ht⟩

theorem Take_k (h : Kq a gd size all pv ps dv ds sd w) (hl : all.length ≤ 1000000) (n : Int) :
    Calls Try.prog 24 #[ptr gd, .int .i64 n] w fun e w' => (∃ u, e = .returned u) ∧ Kq a gd size (Ring.mark (out 1) ((sel (isQ 0) all).take n.toNat) all) pv ps dv ds sd w' := by
  obtain ⟨P, D, rfl, h⟩ := h
  refine (Take_rg h.ring hl n).mono ?_
  rintro e w' ⟨u, rfl, ho, hr, ht⟩
  exact ⟨⟨u, rfl⟩, P, D, rfl, h.turn hr ht⟩

theorem there_at {pos : Int} (hp : there all pos) : ∃ (i : Nat) (x : Slot × Int), pos = i ∧ tl all ≤ i ∧ all[i]? = some x := by
  obtain ⟨h0, h1⟩ := hp
  exact ⟨pos.toNat, _, by omega, by omega, List.getElem?_eq_getElem (by omega)⟩

/-- Done: it is not there, it was not handed out, or it is done. -/
theorem Done_k (h : Kq a gd size all pv ps dv ds sd w) (hl : all.length ≤ 1000000) (pos : Int) :
    Calls Try.prog 25 #[ptr gd, .int .i64 pos] w fun e w' => ∃ z all', e = .returned (.int .i64 z) ∧ Kq a gd size all' pv ps dv ds sd w' ∧ ((z ≠ 0 ∧ all' = all) ∨ (z = 0 ∧ ∃ i : Nat, pos = i ∧ all' = all.modify i (out 2))) := by
  obtain ⟨P, D, rfl, h⟩ := h
  by_cases hp : there all pos
  · obtain ⟨i, x, rfl, hi, hx⟩ := there_at hp
    by_cases hq : x.2 = 1
    · refine (Done_rg h.ring hl i x hi hx hq).mono ?_
      rintro e w' ⟨rfl, P', hg, hr, ht⟩
      exact ⟨_, _, rfl, ⟨P', D, hg, h.turn hr ht⟩, .inr ⟨rfl, i, rfl, rfl⟩⟩
    · refine (Done_state_rg h.ring hl i x hi hx hq).mono ?_
      rintro e w' ⟨rfl, hb⟩
      exact ⟨_, _, rfl, ⟨P, D, rfl, h.on hb⟩, .inl ⟨by decide, rfl⟩⟩
  · refine (Done_none_rg h.ring hl pos hp).mono ?_
    rintro e w' ⟨rfl, hb⟩
    exact ⟨_, _, rfl, ⟨P, D, rfl, h.on hb⟩, .inl ⟨by decide, rfl⟩⟩

theorem Back_k (h : Kq a gd size all pv ps dv ds sd w) (hl : all.length ≤ 1000000) (pos : Int) :
    Calls Try.prog 26 #[ptr gd, .int .i64 pos] w fun e w' => ∃ z all', e = .returned (.int .i64 z) ∧ Kq a gd size all' pv ps dv ds sd w' ∧ (all' = all ∨ ∃ i : Nat, tl all ≤ i ∧ all' = all.modify i (out 0)) := by
  obtain ⟨P, D, rfl, h⟩ := h
  by_cases hp : there all pos
  · obtain ⟨i, x, rfl, hi, hx⟩ := there_at hp
    by_cases hq : x.2 = 1
    · refine (Back_rg h.ring hl i x hi hx hq).mono ?_
      rintro e w' ⟨rfl, hr, ht⟩
      exact ⟨_, _, rfl, ⟨P, D, rfl, h.turn hr ht⟩, .inr ⟨i, hi, rfl⟩⟩
    · refine (Back_state_rg h.ring hl i x hi hx hq).mono ?_
      rintro e w' ⟨rfl, hb⟩
      exact ⟨_, _, rfl, ⟨P, D, rfl, h.on hb⟩, .inl rfl⟩
  · refine (Back_none_rg h.ring hl pos hp).mono ?_
    rintro e w' ⟨rfl, hb⟩
    exact ⟨_, _, rfl, ⟨P, D, rfl, h.on hb⟩, .inl rfl⟩

theorem Head_k (h : Kq a gd size all pv ps dv ds sd w) (hl : all.length ≤ 1000000) : Calls Try.prog 13 #[ptr gd] w fun e w' => e = .returned (.int .i64 (all.length : Nat)) ∧ Kq a gd size all pv ps dv ds sd w' := by
  obtain ⟨P, D, rfl, h⟩ := h
  refine (Head_rg h.ring hl).mono ?_
  rintro e w' ⟨rfl, k, rfl⟩
  exact ⟨rfl, P, D, rfl, h.on (below_draws (Below.refl _ _) k)⟩

theorem Tail_k (h : Kq a gd size all pv ps dv ds sd w) : Calls Try.prog 14 #[ptr gd] w fun e w' => e = .returned (.int .i64 (tl all : Nat)) ∧ Kq a gd size all pv ps dv ds sd w' := by
  obtain ⟨P, D, rfl, h⟩ := h
  refine (Tail_rg h.ring).mono ?_
  rintro e w' ⟨rfl, k, rfl⟩
  exact ⟨rfl, P, D, rfl, h.on (below_draws (Below.refl _ _) k)⟩

theorem Free_k (h : Kq a gd size all pv ps dv ds sd w) (hl : all.length ≤ 1000000) (h0 : 0 ≤ size) (h1 : size ≤ 1000000) : Calls Try.prog 16 #[ptr gd] w fun e w' => e = .returned (.int .i64 (size - all.length + tl all)) ∧ Kq a gd size all pv ps dv ds sd w' := by
  obtain ⟨P, D, rfl, h⟩ := h
  refine (Free_rg h.ring hl h0 h1).mono ?_
  rintro e w' ⟨rfl, k, rfl⟩
  exact ⟨rfl, P, D, rfl, h.on (below_draws (Below.refl _ _) k)⟩

theorem Get_k (h : Kq a gd size all pv ps dv ds sd w) (hl : all.length ≤ 1000000) (i : Nat) (x : Slot × Int) (hi : tl all ≤ i) (hx : all[i]? = some x) : Calls Try.prog 28 #[ptr gd, .int .i64 i] w fun e w' => ∃ v, e = .returned (.tuple #[slotV x.1 v, .int .i64 0]) ∧ Own w' w.heap.size 5 v x.1.d ∧ Kq a gd size all pv ps dv ds sd w' := by
  obtain ⟨P, D, rfl, h⟩ := h
  refine (Get_rg h.ring hl i x hi hx).mono ?_
  rintro e w' ⟨v, rfl, ho, hb⟩
  exact ⟨v, rfl, ho, P, D, rfl, h.on hb⟩
end

/-- What is done is kept. -/
def Kept (all : All) (ds : List Int) : Prop := ∀ (k : Nat) x, all[k]? = some x → x.2 = 2 → (k : Int) ∈ ds

theorem tl_ge {all all' : All} (h : ∀ k, k < tl all → ∃ x, all'[k]? = some x ∧ x.2 = 2) : tl all ≤ tl all' := by
  rcases Nat.lt_or_ge (tl all') (tl all) with hl | hl
  · obtain ⟨x, h1, h2⟩ := h _ hl
    exact absurd h2 (tl_not all' x h1)
  · exact hl

theorem done_at {all : All} {k : Nat} (hk : k < tl all) : ∃ x, all[k]? = some x ∧ x.2 = 2 := by
  have hl := tl_le all
  have hx : all[k]? = some all[k] := List.getElem?_eq_getElem (by omega)
  refine ⟨_, hx, tl_done all _ (List.mem_of_getElem? (i := k) ?_)⟩
  rw [List.getElem?_take, if_pos hk, hx]

theorem Kept.tail {all : All} {ds : List Int} (h : Kept all ds) {k : Nat} (hk : k < tl all) : (k : Int) ∈ ds := by
  obtain ⟨x, h1, h2⟩ := done_at hk
  exact h k x h1 h2

theorem Kept.put {all : All} {ds : List Int} (h : Kept all ds) (s : Slot) : Kept (all ++ [(s, 0)]) ds := fun k x hx h2 => by
  rcases Nat.lt_or_ge k all.length with hl | hl
  · rw [List.getElem?_append_left hl] at hx
    exact h k x hx h2
  · rw [List.getElem?_append_right hl] at hx
    have := (List.getElem?_eq_some_iff.1 hx).1
    rw [show k - all.length = 0 by simp at this; omega] at hx
    simp at hx
    rw [← hx] at h2
    exact absurd h2 (show (0 : Int) ≠ 2 by decide)

theorem Kept.take {all : All} {ds : List Int} (h : Kept all ds) (js : List Nat) : Kept (Ring.mark (out 1) js all) ds := fun k x hx h2 => by
  rcases mark_cases _ _ _ _ _ hx with h3 | ⟨y, rfl⟩
  · exact h k x h3 h2
  · exact absurd h2 (show (1 : Int) ≠ 2 by decide)

theorem Kept.back {all : All} {ds : List Int} (h : Kept all ds) (i : Nat) : Kept (all.modify i (out 0)) ds := fun k x hx h2 => by
  rw [List.getElem?_modify] at hx
  cases hy : all[k]? with
  | none => rw [hy] at hx; cases hx
  | some y =>
    rw [hy] at hx
    injection hx with hx
    split at hx
    · rw [← hx] at h2
      exact absurd h2 (show (0 : Int) ≠ 2 by decide)
    · rw [← hx] at h2
      exact h k y hy h2

theorem Kept.did {all : All} {ds : List Int} (h : Kept all ds) (i : Nat) : Kept (all.modify i (out 2)) (ds ++ [(i : Int)]) := fun k x hx h2 => by
  rw [List.getElem?_modify] at hx
  cases hy : all[k]? with
  | none => rw [hy] at hx; cases hx
  | some y =>
    rw [hy] at hx
    injection hx with hx
    split at hx
    · rename_i e
      rw [e]
      simp
    · rw [← hx] at h2
      exact List.mem_append_left _ (h k y hy h2)

theorem tl_did (all : All) (i : Nat) : tl all ≤ tl (all.modify i (out 2)) := tl_ge fun k hk => by
  obtain ⟨x, h1, h2⟩ := done_at hk
  rw [List.getElem?_modify, h1]
  by_cases e : i = k
  · exact ⟨_, by simp only [if_pos e]; rfl, rfl⟩
  · exact ⟨x, by simp only [if_neg e]; rfl, h2⟩

theorem tl_take (all : All) (n : Nat) : tl (Ring.mark (out 1) ((sel (isQ 0) all).take n) all) = tl all := by
  have h := sel_drop (isQ 0) all (tl all) (tl_le all) (fun x hx => by have := tl_done all x hx; simp [isQ, this])
  rw [h, ← List.map_take]
  exact tl_mark all _

theorem slots_mark (q : Int) (js : List Nat) (all : All) : (Ring.mark (out q) js all).map (·.1) = all.map (·.1) := by
  induction js generalizing all with
  | nil => rfl
  | cons j js ih =>
    rw [mark_cons, ih]
    apply List.ext_getElem?
    intro k
    rw [List.getElem?_map, List.getElem?_map, List.getElem?_modify]
    cases all[k]? with
    | none => rfl
    | some x => by_cases e : j = k <;> simp [e, out]

theorem slots_modify (q : Int) (i : Nat) (all : All) : (all.modify i (out q)).map (·.1) = all.map (·.1) := slots_mark q [i] all

set_option maxHeartbeats 1000000 in
/-- What is kept is found. -/
theorem has_any (A : Option Addr) (m c base : Nat) (zs : List Int) (w : World) (h1 : OwnI w base 3 (.slice A m c) zs) (hm : m ≤ 1000000) (n : Int) (hn : n ∈ zs) :
    Calls Try.prog 27 #[.slice A m c, .int .i64 n] w fun e w' => e = .returned (.bool true) ∧ Below w.heap.size w w' := by
  have H1 := Lib.hid h1
  obtain ⟨j, hj⟩ := List.getElem?_of_mem hn
  have HJ := Lib.hid hj
  have hjm : j < m := by rw [← h1.len]; exact (List.getElem?_eq_some_iff.1 hj).1
  clear h1 hn hj
  go_enter Try.func27, Try.ntmps27
  go_wp2
  go_loop [5] (fun i => ∃ k : Nat, k ≤ j ∧ i = .int .i64 k) (fun i => m - (intOf i).toNat)
  case atStart => exact ⟨0, by omega, rfl⟩
  case round =>
    obtain ⟨k, hk, rfl⟩ := hrel
    obtain ⟨g1, rfl, _, hc1, hm1⟩ := H1.out.first (by omega)
    obtain ⟨z, hz⟩ : ∃ z, zs[k]? = some z := ⟨_, List.getElem?_eq_getElem (by rw [H1.out.len]; omega)⟩
    have q1 := (H1.out.cell hz).1
    have hc63 : c ≤ 9223372036854775807 := hm1
    have hki : (k : Int) < (m : Int) := by omega
    by_cases e : z = n
    · subst e
      clear hz hm1
      go_wp2
      go_ret
      exact ⟨rfl, Below.refl _ _⟩
    · have hkj : k ≠ j := fun h => e (by rw [h, HJ.out] at hz; injection hz with hz; exact hz.symm)
      have hzn : (z == n) = false := by simpa using e
      clear hz hm1 e
      go_wp2
      go_round
      case rel => exact ⟨k + 1, by omega, by go_num⟩
      case measure => simp [intOf]; omega

end Go.Proofs.Ytecmmihobojjpaa.RingLaw
