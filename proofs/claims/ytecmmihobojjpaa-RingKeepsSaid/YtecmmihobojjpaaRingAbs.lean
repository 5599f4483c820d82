/-
  What package ring does, said of all slots that were ever put.
-/
import Derived.Test.YtecmmihobojjpaaRingPut
namespace Go.Proofs.Ytecmmihobojjpaa.RingPkg
open Go.RowKit Ring
set_option maxRecDepth 4000

theorem mark_cases {α : Type} (f : α → α) (ps : List Nat) (l : List α) (j : Nat) (x : α) (h : (Ring.mark f ps l)[j]? = some x) : l[j]? = some x ∨ ∃ y, x = f y := by
  induction ps generalizing l with
  | nil => exact .inl h
  | cons i ps ih =>
    rw [mark_cons] at h
    rcases ih _ h with h | h
    · rw [List.getElem?_modify] at h
      cases hl : l[j]? with
      | none => rw [hl] at h; cases h
      | some y =>
        rw [hl] at h
        injection h with h
        split at h
        · exact .inr ⟨y, h.symm⟩
        · exact .inl (by rw [← h])
    · exact .inr h

theorem tl_append (l m : All) (h : ∀ x ∈ l, x.2 = 2) : tl (l ++ m) = l.length + tl m := by
  induction l with
  | nil => simp
  | cons x l ih =>
    have hx : isQ 2 x = true := by simpa [isQ] using h x (by simp)
    have e : tl (x :: (l ++ m)) = tl (l ++ m) + 1 := by simp [tl, hx]
    rw [List.cons_append, e, ih (fun y hy => h y (by simp [hy])), List.length_cons]
    omega

theorem tl_split (l : All) (t : Nat) (ht : t ≤ l.length) (h : ∀ x ∈ l.take t, x.2 = 2) : tl l = t + tl (l.drop t) := by
  conv => lhs; rw [← List.take_append_drop t l]
  rw [tl_append _ _ h, List.length_take, Nat.min_eq_left ht]

theorem lead_is (rs : List Row) : lead rs = tl (rs.map Row.ab) := by
  refine (tl_is _ _ (by rw [List.length_map]; exact lead_le rs) (fun x hx => ?_) (fun x hx => ?_)).symm
  · rw [← List.map_take] at hx
    obtain ⟨r, hr, rfl⟩ := List.mem_map.1 hx
    obtain ⟨j, hj⟩ := List.getElem?_of_mem hr
    rw [List.getElem?_take] at hj
    split at hj
    · rename_i hjl
      by_cases hq : r.q = 2
      · exact hq
      · have hm := sel_mem leftB rs j r hj (by simp [leftB, hq])
        unfold lead at hjl
        cases hs : sel leftB rs with
        | nil => rw [hs] at hm; cases hm
        | cons k l =>
          rw [hs] at hm hjl
          have hsort := sel_sorted leftB rs
          rw [hs] at hsort
          rcases List.mem_cons.1 hm with e | e
          · rw [e] at hjl
            simp at hjl
          · have := (List.pairwise_cons.1 hsort).1 j e
            simp at hjl
            omega
    · cases hj
  · rw [List.getElem?_map] at hx
    unfold lead at hx
    cases hs : sel leftB rs with
    | nil =>
      rw [hs] at hx
      simp at hx
    | cons k l =>
      rw [hs] at hx
      obtain ⟨r, h1, h2⟩ := sel_is leftB rs k (by rw [hs]; simp)
      simp [h1] at hx
      rw [← hx]
      simpa [leftB, Row.ab] using h2

/-- A ring in memory: all slots that were ever put. -/
def Rg (w : World) (P : Pl) (size : Int) (all : All) : Prop := ∃ rs, rs.map Row.ab = all.drop (tl all) ∧ Rng w P size (tl all) rs

section
variable {w w' : World} {P : Pl} {size : Int} {all : All}

theorem Rg.lt (h : Rg w P size all) : ∀ b, P.own b → b < w.heap.size := by
  obtain ⟨rs, _, h⟩ := h
  exact h.lt

theorem Rg.keep (h : Rg w P size all) (hs : w.heap.size ≤ w'.heap.size) (hk : ∀ b, P.own b → w'.heap[b]? = w.heap[b]?) : Rg w' P size all := by
  obtain ⟨rs, e, h⟩ := h
  exact ⟨rs, e, h.keep hs hk⟩

theorem Rg.below (h : Rg w P size all) (hb : Below w.heap.size w w') : Rg w' P size all := h.keep hb.size fun b ho => hb.block b (h.lt b ho)

theorem Rg.turn {O O' : Nat → Prop} (h : Rg w P size all) (ht : Turn O O' w w') (hd : ∀ b, P.own b → ¬ O b) : Rg w' P size all := h.keep ht.size (ht.kept h.lt hd)

theorem rs_len {rs : List Row} (e : rs.map Row.ab = all.drop (tl all)) : (tl all : Int) + rs.length = all.length ∧ rs.length = all.length - tl all := by
  have h1 := congrArg List.length e
  rw [List.length_map, List.length_drop] at h1
  have := tl_le all
  omega

theorem rs_at {rs : List Row} (e : rs.map Row.ab = all.drop (tl all)) {i : Nat} {x : Slot × Int} (hi : tl all ≤ i) (hx : all[i]? = some x) : ∃ r, rs[i - tl all]? = some r ∧ r.ab = x := by
  have h1 : (rs.map Row.ab)[i - tl all]? = some x := by
    rw [e, List.getElem?_drop, show tl all + (i - tl all) = i by omega]
    exact hx
  rw [List.getElem?_map] at h1
  exact Option.map_eq_some_iff.1 h1

theorem Head_rg (h : Rg w P size all) (hl : all.length ≤ 1000000) : Calls Try.prog 13 #[ptr P.g] w fun e w' => e = .returned (.int .i64 all.length) ∧ ∃ k, w' = w.drewN k := by
  obtain ⟨rs, e, h⟩ := h
  obtain ⟨e1, _⟩ := rs_len e
  have hh := Head_any h (by omega) (by omega)
  rw [e1] at hh
  exact hh

theorem Tail_rg (h : Rg w P size all) : Calls Try.prog 14 #[ptr P.g] w fun e w' => e = .returned (.int .i64 (tl all)) ∧ ∃ k, w' = w.drewN k := by
  obtain ⟨rs, e, h⟩ := h
  exact Tail_any h

theorem Free_rg (h : Rg w P size all) (hl : all.length ≤ 1000000) (h0 : 0 ≤ size) (h1 : size ≤ 1000000) : Calls Try.prog 16 #[ptr P.g] w fun e w' => e = .returned (.int .i64 (size - all.length + tl all)) ∧ ∃ k, w' = w.drewN k := by
  obtain ⟨rs, e, h⟩ := h
  obtain ⟨e1, _⟩ := rs_len e
  have hh := Free_any h h0 (by omega) (by omega)
  rw [show size - (rs.length : Int) = size - all.length + tl all by omega] at hh
  exact hh

theorem waits_all {rs : List Row} (e : rs.map Row.ab = all.drop (tl all)) : sel (isQ 0) all = (sel waitsB rs).map (· + tl all) := by
  rw [sel_drop (isQ 0) all (tl all) (tl_le all) (fun x hx => by have := tl_done all x hx; simp [isQ, this]), ← e, sel_map]
  rfl

theorem Waiting_rg (h : Rg w P size all) (hl : all.length ≤ 1000000) : Calls Try.prog 15 #[ptr P.g] w fun e w' => e = .returned (.int .i64 (sel (isQ 0) all).length) ∧ Below w.heap.size w w' := by
  obtain ⟨rs, e, h⟩ := h
  obtain ⟨e1, _⟩ := rs_len e
  have hh := Waiting_raw h (by omega) (by omega)
  rw [waits_all e, List.length_map]
  exact hh

theorem New_rg (size : Int) (w : World) (h0 : 1 ≤ size) (h1 : size ≤ 256) : Calls Try.prog 11 #[.int .i64 size] w fun e w' => ∃ P, e = .returned (.tuple #[ptr P.g, .int .i64 0]) ∧ Rg w' P size [] ∧ (∀ b, P.own b → w.heap.size ≤ b) ∧ Below w.heap.size w w' := by
  refine (New_in size w h0 h1).mono ?_
  rintro e w' ⟨P, rfl, h, h2, h3⟩
  exact ⟨P, rfl, ⟨[], rfl, h⟩, h2, h3⟩

theorem tl_put (all : All) (s : Slot) : tl (all ++ [(s, 0)]) = tl all := by
  have hl := tl_le all
  refine tl_is _ _ (by simp; omega) (fun x hx => ?_) (fun x hx => ?_)
  · rw [List.take_append_of_le_length hl] at hx
    exact tl_done all x hx
  · rcases Nat.lt_or_ge (tl all) all.length with h | h
    · rw [List.getElem?_append_left h] at hx
      exact tl_not all x hx
    · rw [List.getElem?_append_right h, show tl all - all.length = 0 by omega] at hx
      simp at hx
      rw [← hx]
      show (0 : Int) ≠ 2
      decide

theorem Put_full_rg (h : Rg w P size all) (_hl : all.length ≤ 1000000) (h0 : 0 ≤ size) (h1 : size ≤ 1000000) (hf : size - all.length + tl all = 0) (s : Slot) (v : Value) (hv : ∃ A n c, v = .slice A n c) :
    Calls Try.prog 22 #[ptr P.g, slotV s v] w fun e w' => e = .returned (.tuple #[.int .i64 0, .int .i64 11]) ∧ Below w.heap.size w w' := by
  obtain ⟨rs, e, h⟩ := h
  obtain ⟨e1, _⟩ := rs_len e
  exact Put_full h h0 (by omega) (by omega) (by omega) s v hv

theorem Put_rg (h : Rg w P size all) (hl : all.length ≤ 1000000) (h0 : 0 ≤ size) (h1 : size ≤ 1000000) (hf : ¬ size - all.length + tl all = 0) (s : Slot) (A : Option Addr) (n c : Nat) (hn : n ≤ 100000000000000) (hr : Bytes w w.heap.size A n s.d) :
    Calls Try.prog 22 #[ptr P.g, slotV s (.slice A n c)] w fun e w' => e = .returned (.tuple #[.int .i64 all.length, .int .i64 0]) ∧ ∃ P', P'.g = P.g ∧ Rg w' P' size (all ++ [(s, 0)]) ∧ Turn P.own P'.own w w' := by
  obtain ⟨rs, e, h⟩ := h
  obtain ⟨e1, _⟩ := rs_len e
  have hp := Put_ok h h0 h1 (by omega) (by omega) (by omega) (by omega) s A n c hn hr
  rw [e1] at hp
  refine hp.mono ?_
  rintro e2 w' ⟨rfl, P', v', hg, hR, hT⟩
  refine ⟨rfl, P', hg, ⟨_, ?_, by rw [tl_put]; exact hR⟩, hT⟩
  rw [tl_put, List.map_append, e, List.drop_append_of_le_length (tl_le all)]
  rfl

theorem tl_mark (all : All) (ps : List Nat) : tl (Ring.mark (out 1) (ps.map (· + tl all)) all) = tl all := by
  refine tl_is _ _ (by rw [mark_len]; exact tl_le all) (fun x hx => ?_) (fun x hx => ?_)
  · rw [mark_take] at hx
    exact tl_done all x hx
  · rcases mark_cases _ _ _ _ _ hx with h | ⟨y, rfl⟩
    · exact tl_not all x h
    · show (1 : Int) ≠ 2
      decide

theorem Take_rg (h : Rg w P size all) (hl : all.length ≤ 1000000) (n : Int) :
    Calls Try.prog 24 #[ptr P.g, .int .i64 n] w fun e w' => ∃ u, e = .returned u ∧ OwnI w' w.heap.size 3 u (nums ((sel (isQ 0) all).take n.toNat)) ∧ Rg w' P size (Ring.mark (out 1) ((sel (isQ 0) all).take n.toNat) all) ∧ Turn P.own P.own w w' := by
  obtain ⟨rs, e, h⟩ := h
  obtain ⟨e1, _⟩ := rs_len e
  refine (Take_raw h (by omega) (by omega) n).mono ?_
  rintro e2 w' ⟨u, rfl, hO, hR, hT⟩
  have hw := waits_all e
  rw [hw, ← List.map_take]
  have hps : poss (tl all : Int) ((sel waitsB rs).take n.toNat) = nums (((sel waitsB rs).take n.toNat).map (· + tl all)) := by
    unfold poss nums
    rw [List.map_map, List.map_map]
    apply List.map_congr_left
    intro a _
    simp
  rw [hps] at hO
  refine ⟨u, rfl, hO, ⟨_, ?_, by rw [tl_mark]; exact hR⟩, hT⟩
  rw [tl_mark, mark_shift, ← e, mark_map (Row.out 1) Row.ab (out 1) (fun x => rfl)]

theorem tl_back (all : All) (i : Nat) (hi : tl all ≤ i) : tl (all.modify i (out 0)) = tl all := by
  refine tl_is _ _ (by rw [List.length_modify]; exact tl_le all) (fun x hx => ?_) (fun x hx => ?_)
  · obtain ⟨j, hj⟩ := List.getElem?_of_mem hx
    rw [List.getElem?_take] at hj
    split at hj
    · rw [List.getElem?_modify] at hj
      have hne : ¬ i = j := by omega
      simp only [hne, if_false, id_map'] at hj
      exact tl_done all x (List.mem_of_getElem? (by rw [List.getElem?_take, if_pos (by assumption)]; simpa using hj))
    · cases hj
  · rw [List.getElem?_modify] at hx
    cases hl : all[tl all]? with
    | none => rw [hl] at hx; cases hx
    | some y =>
      rw [hl] at hx
      injection hx with hx
      split at hx
      · rw [← hx]
        show (0 : Int) ≠ 2
        decide
      · rw [← hx]
        exact tl_not all y hl

theorem modify_drop (all : All) (t i : Nat) (hi : t ≤ i) (f : Slot × Int → Slot × Int) : (all.modify i f).drop t = (all.drop t).modify (i - t) f := by
  apply List.ext_getElem?
  intro j
  rw [List.getElem?_drop, List.getElem?_modify, List.getElem?_modify, List.getElem?_drop]
  by_cases e : i = t + j
  · simp only [if_pos e, if_pos (show i - t = j by omega)]
  · simp only [if_neg e, if_neg (show ¬ i - t = j by omega)]

theorem modify_map (rs : List Row) (i : Nat) (q : Int) : (rs.modify i (Row.out q)).map Row.ab = (rs.map Row.ab).modify i (out q) := by
  apply List.ext_getElem?
  intro j
  rw [List.getElem?_map, List.getElem?_modify, List.getElem?_modify, List.getElem?_map]
  cases rs[j]? with
  | none => rfl
  | some r =>
    by_cases e : i = j
    · simp [e, Row.ab, Row.out, out]
    · simp [e]

/-- Is a position there? -/
def there (all : All) (pos : Int) : Prop := (tl all : Int) ≤ pos ∧ pos < all.length

theorem Done_none_rg (h : Rg w P size all) (hl : all.length ≤ 1000000) (pos : Int) (hp : ¬ there all pos) : Calls Try.prog 25 #[ptr P.g, .int .i64 pos] w fun e w' => e = .returned (.int .i64 12) ∧ Below w.heap.size w w' := by
  obtain ⟨rs, e, h⟩ := h
  obtain ⟨e1, _⟩ := rs_len e
  exact Done_none h (by omega) (by omega) pos (by rw [e1]; exact hp)

theorem Back_none_rg (h : Rg w P size all) (hl : all.length ≤ 1000000) (pos : Int) (hp : ¬ there all pos) : Calls Try.prog 26 #[ptr P.g, .int .i64 pos] w fun e w' => e = .returned (.int .i64 12) ∧ Below w.heap.size w w' := by
  obtain ⟨rs, e, h⟩ := h
  obtain ⟨e1, _⟩ := rs_len e
  exact Back_none h (by omega) (by omega) pos (by rw [e1]; exact hp)

theorem Done_state_rg (h : Rg w P size all) (hl : all.length ≤ 1000000) (i : Nat) (x : Slot × Int) (hi : tl all ≤ i) (hx : all[i]? = some x) (hq : x.2 ≠ 1) : Calls Try.prog 25 #[ptr P.g, .int .i64 i] w fun e w' => e = .returned (.int .i64 13) ∧ Below w.heap.size w w' := by
  obtain ⟨rs, e, h⟩ := h
  obtain ⟨e1, _⟩ := rs_len e
  obtain ⟨r, hr, rfl⟩ := rs_at e hi hx
  exact Done_state h (by omega) (by omega) i (i - tl all) r (by omega) hr hq

theorem Back_state_rg (h : Rg w P size all) (hl : all.length ≤ 1000000) (i : Nat) (x : Slot × Int) (hi : tl all ≤ i) (hx : all[i]? = some x) (hq : x.2 ≠ 1) : Calls Try.prog 26 #[ptr P.g, .int .i64 i] w fun e w' => e = .returned (.int .i64 13) ∧ Below w.heap.size w w' := by
  obtain ⟨rs, e, h⟩ := h
  obtain ⟨e1, _⟩ := rs_len e
  obtain ⟨r, hr, rfl⟩ := rs_at e hi hx
  exact Back_state h (by omega) (by omega) i (i - tl all) r (by omega) hr hq

theorem Back_rg (h : Rg w P size all) (hl : all.length ≤ 1000000) (i : Nat) (x : Slot × Int) (hi : tl all ≤ i) (hx : all[i]? = some x) (hq : x.2 = 1) : Calls Try.prog 26 #[ptr P.g, .int .i64 i] w fun e w' => e = .returned (.int .i64 0) ∧ Rg w' P size (all.modify i (out 0)) ∧ Turn P.own P.own w w' := by
  obtain ⟨rs, e, h⟩ := h
  obtain ⟨e1, _⟩ := rs_len e
  obtain ⟨r, hr, rfl⟩ := rs_at e hi hx
  refine (Back_ok h (by omega) (by omega) i (i - tl all) r (by omega) hr hq).mono ?_
  rintro e2 w' ⟨rfl, hR, hT⟩
  exact ⟨rfl, ⟨_, by rw [tl_back all i hi, modify_map, e, modify_drop all _ _ hi], by rw [tl_back all i hi]; exact hR⟩, hT⟩

theorem Done_rg (h : Rg w P size all) (hl : all.length ≤ 1000000) (i : Nat) (x : Slot × Int) (hi : tl all ≤ i) (hx : all[i]? = some x) (hq : x.2 = 1) : Calls Try.prog 25 #[ptr P.g, .int .i64 i] w fun e w' => e = .returned (.int .i64 0) ∧ ∃ P', P'.g = P.g ∧ Rg w' P' size (all.modify i (out 2)) ∧ Turn P.own P'.own w w' := by
  obtain ⟨rs, e, h⟩ := h
  obtain ⟨e1, _⟩ := rs_len e
  obtain ⟨r, hr, rfl⟩ := rs_at e hi hx
  refine (Done_ok h (by omega) (by omega) i (i - tl all) r (by omega) hr hq).mono ?_
  rintro e2 w' ⟨rfl, P', hg, hR, hT⟩
  have e3 : (rs.modify (i - tl all) (Row.out 2)).map Row.ab = (all.modify i (out 2)).drop (tl all) := by rw [modify_map, e, modify_drop all _ _ hi]
  have e4 : tl (all.modify i (out 2)) = tl all + lead (rs.modify (i - tl all) (Row.out 2)) := by
    rw [lead_is, e3]
    refine tl_split _ _ (by rw [List.length_modify]; exact tl_le all) (fun x hx => ?_)
    obtain ⟨j, hj⟩ := List.getElem?_of_mem hx
    rw [List.getElem?_take] at hj
    split at hj
    · rw [List.getElem?_modify] at hj
      have hne : ¬ i = j := by omega
      simp only [hne, if_false, id_map'] at hj
      exact tl_done all x (List.mem_of_getElem? (by rw [List.getElem?_take, if_pos (by assumption)]; simpa using hj))
    · cases hj
  refine ⟨rfl, P', hg, ⟨_, ?_, by rw [e4, Int.natCast_add]; exact hR⟩, hT⟩
  rw [List.map_drop, e3, List.drop_drop, e4]

theorem Get_none_rg (h : Rg w P size all) (hl : all.length ≤ 1000000) (pos : Int) (hp : ¬ there all pos) : Calls Try.prog 28 #[ptr P.g, .int .i64 pos] w fun e w' => e = .returned (.tuple #[slotV ⟨0, 0, 0, [], 0⟩ (.slice none 0 0), .int .i64 12]) ∧ Below w.heap.size w w' := by
  obtain ⟨rs, e, h⟩ := h
  obtain ⟨e1, _⟩ := rs_len e
  exact Get_none h (by omega) (by omega) pos (by rw [e1]; exact hp)

theorem Get_rg (h : Rg w P size all) (hl : all.length ≤ 1000000) (i : Nat) (x : Slot × Int) (hi : tl all ≤ i) (hx : all[i]? = some x) : Calls Try.prog 28 #[ptr P.g, .int .i64 i] w fun e w' => ∃ v, e = .returned (.tuple #[slotV x.1 v, .int .i64 0]) ∧ Own w' w.heap.size 5 v x.1.d ∧ Below w.heap.size w w' := by
  obtain ⟨rs, e, h⟩ := h
  obtain ⟨e1, _⟩ := rs_len e
  obtain ⟨r, hr, rfl⟩ := rs_at e hi hx
  exact Get_ok h (by omega) (by omega) i (i - tl all) r (by omega) hr

/-- The last slot of a client's with a sector. -/
def find (all : All) (lba : Int) : Option Nat := ((sel (mine lba) (all.drop (tl all))).getLast?).map (· + tl all)

theorem Find_rg (h : Rg w P size all) (hl : all.length ≤ 1000000) (lba : Int) : Calls Try.prog 30 #[ptr P.g, .int .i64 lba] w fun e w' => (match find all lba with | none => e = .returned (.tuple #[.int .i64 0, .bool false]) | some i => e = .returned (.tuple #[.int .i64 i, .bool true])) ∧ Below w.heap.size w w' := by
  obtain ⟨rs, e, h⟩ := h
  obtain ⟨e1, _⟩ := rs_len e
  refine (Find_raw h (by omega) (by omega) lba).mono ?_
  rintro e2 w' ⟨h1, h2⟩
  refine ⟨?_, h2⟩
  have hs : sel (mine lba) (all.drop (tl all)) = sel (mineB lba) rs := by rw [← e, sel_map]; rfl
  unfold find
  rw [hs]
  cases hg : (sel (mineB lba) rs).getLast? with
  | none =>
    rw [hg] at h1
    exact h1
  | some i =>
    rw [hg] at h1
    simp only at h1
    rw [h1]
    simp only [Option.map_some]
    rw [show ((i + tl all : Nat) : Int) = (tl all : Int) + (i : Int) by omega]
end
end Go.Proofs.Ytecmmihobojjpaa.RingPkg
