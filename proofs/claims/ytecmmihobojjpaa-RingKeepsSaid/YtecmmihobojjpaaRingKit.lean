/-
  One ring, made by a law: what its calls do, in short; the laws' own 'awake' of layer 10: a slot goes through a ring.
-/
import Derived.Test.YtecmmihobojjpaaRingAbs
namespace Go.Proofs.Ytecmmihobojjpaa.RingLaw
open Go.RowKit Ring RingPkg
set_option maxRecDepth 4000

theorem below_turn {O O' : Nat → Prop} {a w w' : World} {B : Nat} (h : Below B a w) (ht : Turn O O' w w') (ho : ∀ b, O b → B ≤ b) (hB : B ≤ w.heap.size) : Below B a w' := h.trans (ht.below ho hB)

theorem bytes_none (w : World) (B : Nat) : Bytes w B none 0 [] := ⟨rfl, fun i hi => by simp at hi⟩

/-- A ring whose block is gd, all of whose memory is newer than a; of a nothing has turned. -/
def Mine (a : World) (gd : Nat) (size : Int) (all : All) (w : World) : Prop := ∃ P : Pl, P.g = gd ∧ Rg w P size all ∧ (∀ b, P.own b → a.heap.size ≤ b) ∧ Below a.heap.size a w

section
variable {a w w' : World} {gd : Nat} {size : Int} {all : All}

theorem Mine.below (h : Mine a gd size all w) : Below a.heap.size a w := by
  obtain ⟨P, _, _, _, h⟩ := h
  exact h

theorem Mine.on (h : Mine a gd size all w) (hb : Below w.heap.size w w') : Mine a gd size all w' := by
  obtain ⟨P, h1, h2, h3, h4⟩ := h
  exact ⟨P, h1, h2.below hb, h3, below_on h4 hb h4.size⟩

theorem Mine.draws (h : Mine a gd size all w) (k : Nat) : Mine a gd size all (w.drewN k) := h.on (below_draws (Below.refl _ _) k)

theorem New_m (a w : World) (hb0 : Below a.heap.size a w) (size : Int) (h0 : 1 ≤ size) (h1 : size ≤ 256) : Calls Try.prog 11 #[.int .i64 size] w fun e w' => ∃ gd, e = .returned (.tuple #[ptr gd, .int .i64 0]) ∧ Mine a gd size [] w' := by
  refine (New_rg size w h0 h1).mono ?_
  rintro e w' ⟨P, rfl, h, h2, h3⟩
  exact ⟨P.g, rfl, P, rfl, h, fun b hb => Nat.le_trans hb0.size (h2 b hb), below_on hb0 h3 hb0.size⟩

theorem Put_full_m (h : Mine a gd size all w) (hl : all.length ≤ 1000000) (h0 : 0 ≤ size) (h1 : size ≤ 1000000) (hf : size - all.length + tl all = 0) (s : Slot) (v : Value) (hv : ∃ A n c, v = .slice A n c) :
    Calls Try.prog 22 #[ptr gd, slotV s v] w fun e w' => e = .returned (.tuple #[.int .i64 0, .int .i64 11]) ∧ Mine a gd size all w' := by
  have H := Lib.hid h
  obtain ⟨P, rfl, h2, h3, h4⟩ := h
  refine (Put_full_rg h2 hl h0 h1 hf s v hv).mono ?_
  rintro e w' ⟨rfl, hb⟩
  exact ⟨rfl, H.out.on hb⟩

theorem Put_m (h : Mine a gd size all w) (hl : all.length ≤ 1000000) (h0 : 0 ≤ size) (h1 : size ≤ 1000000) (hf : ¬ size - all.length + tl all = 0) (s : Slot) (A : Option Addr) (n c : Nat) (hn : n ≤ 100000000000000) (hr : Bytes w w.heap.size A n s.d) :
    Calls Try.prog 22 #[ptr gd, slotV s (.slice A n c)] w fun e w' => e = .returned (.tuple #[.int .i64 all.length, .int .i64 0]) ∧ Mine a gd size (all ++ [(s, 0)]) w' := by
  obtain ⟨P, rfl, h2, h3, h4⟩ := h
  refine (Put_rg h2 hl h0 h1 hf s A n c hn hr).mono ?_
  rintro e w' ⟨rfl, P', hg, hr, ht⟩
  exact ⟨rfl, P', hg, hr, ht.up h3 h4.size, below_turn h4 ht h3 h4.size⟩

theorem Take_m (h : Mine a gd size all w) (hl : all.length ≤ 1000000) (n : Int) :
    Calls Try.prog 24 #[ptr gd, .int .i64 n] w fun e w' => ∃ u, e = .returned u ∧ OwnI w' w.heap.size 3 u (nums ((sel (isQ 0) all).take n.toNat)) ∧ Mine a gd size (Ring.mark (out 1) ((sel (isQ 0) all).take n.toNat) all) w' := by
  obtain ⟨P, rfl, h2, h3, h4⟩ := h
  refine (Take_rg h2 hl n).mono ?_
  rintro e w' ⟨u, rfl, ho, hr, ht⟩
  exact ⟨u, rfl, ho, P, rfl, hr, h3, below_turn h4 ht h3 h4.size⟩

theorem Done_m (h : Mine a gd size all w) (hl : all.length ≤ 1000000) (i : Nat) (x : Slot × Int) (hi : tl all ≤ i) (hx : all[i]? = some x) (hq : x.2 = 1) : Calls Try.prog 25 #[ptr gd, .int .i64 i] w fun e w' => e = .returned (.int .i64 0) ∧ Mine a gd size (all.modify i (out 2)) w' := by
  obtain ⟨P, rfl, h2, h3, h4⟩ := h
  refine (Done_rg h2 hl i x hi hx hq).mono ?_
  rintro e w' ⟨rfl, P', hg, hr, ht⟩
  exact ⟨rfl, P', hg, hr, ht.up h3 h4.size, below_turn h4 ht h3 h4.size⟩

theorem Back_m (h : Mine a gd size all w) (hl : all.length ≤ 1000000) (i : Nat) (x : Slot × Int) (hi : tl all ≤ i) (hx : all[i]? = some x) (hq : x.2 = 1) : Calls Try.prog 26 #[ptr gd, .int .i64 i] w fun e w' => e = .returned (.int .i64 0) ∧ Mine a gd size (all.modify i (out 0)) w' := by
  obtain ⟨P, rfl, h2, h3, h4⟩ := h
  refine (Back_rg h2 hl i x hi hx hq).mono ?_
  rintro e w' ⟨rfl, hr, ht⟩
  exact ⟨rfl, P, rfl, hr, h3, below_turn h4 ht h3 h4.size⟩

theorem Back_none_m (h : Mine a gd size all w) (hl : all.length ≤ 1000000) (pos : Int) (hp : ¬ there all pos) : Calls Try.prog 26 #[ptr gd, .int .i64 pos] w fun e w' => e = .returned (.int .i64 12) ∧ Mine a gd size all w' := by
  have H := Lib.hid h
  obtain ⟨P, rfl, h2, h3, h4⟩ := h
  refine (Back_none_rg h2 hl pos hp).mono ?_
  rintro e w' ⟨rfl, hb⟩
  exact ⟨rfl, H.out.on hb⟩

theorem Back_state_m (h : Mine a gd size all w) (hl : all.length ≤ 1000000) (i : Nat) (x : Slot × Int) (hi : tl all ≤ i) (hx : all[i]? = some x) (hq : x.2 ≠ 1) : Calls Try.prog 26 #[ptr gd, .int .i64 i] w fun e w' => e = .returned (.int .i64 13) ∧ Mine a gd size all w' := by
  have H := Lib.hid h
  obtain ⟨P, rfl, h2, h3, h4⟩ := h
  refine (Back_state_rg h2 hl i x hi hx hq).mono ?_
  rintro e w' ⟨rfl, hb⟩
  exact ⟨rfl, H.out.on hb⟩

theorem Head_m (h : Mine a gd size all w) (hl : all.length ≤ 1000000) : Calls Try.prog 13 #[ptr gd] w fun e w' => e = .returned (.int .i64 all.length) ∧ Mine a gd size all w' := by
  have H := Lib.hid h
  obtain ⟨P, rfl, h2, h3, h4⟩ := h
  refine (Head_rg h2 hl).mono ?_
  rintro e w' ⟨rfl, k, rfl⟩
  exact ⟨rfl, H.out.draws k⟩

theorem Tail_m (h : Mine a gd size all w) : Calls Try.prog 14 #[ptr gd] w fun e w' => e = .returned (.int .i64 (tl all)) ∧ Mine a gd size all w' := by
  have H := Lib.hid h
  obtain ⟨P, rfl, h2, h3, h4⟩ := h
  refine (Tail_rg h2).mono ?_
  rintro e w' ⟨rfl, k, rfl⟩
  exact ⟨rfl, H.out.draws k⟩

theorem Free_m (h : Mine a gd size all w) (hl : all.length ≤ 1000000) (h0 : 0 ≤ size) (h1 : size ≤ 1000000) : Calls Try.prog 16 #[ptr gd] w fun e w' => e = .returned (.int .i64 (size - all.length + tl all)) ∧ Mine a gd size all w' := by
  have H := Lib.hid h
  obtain ⟨P, rfl, h2, h3, h4⟩ := h
  refine (Free_rg h2 hl h0 h1).mono ?_
  rintro e w' ⟨rfl, k, rfl⟩
  exact ⟨rfl, H.out.draws k⟩

theorem Waiting_m (h : Mine a gd size all w) (hl : all.length ≤ 1000000) : Calls Try.prog 15 #[ptr gd] w fun e w' => e = .returned (.int .i64 (sel (isQ 0) all).length) ∧ Mine a gd size all w' := by
  have H := Lib.hid h
  obtain ⟨P, rfl, h2, h3, h4⟩ := h
  refine (Waiting_rg h2 hl).mono ?_
  rintro e w' ⟨rfl, hb⟩
  exact ⟨rfl, H.out.on hb⟩

theorem Get_none_m (h : Mine a gd size all w) (hl : all.length ≤ 1000000) (pos : Int) (hp : ¬ there all pos) : Calls Try.prog 28 #[ptr gd, .int .i64 pos] w fun e w' => e = .returned (.tuple #[slotV ⟨0, 0, 0, [], 0⟩ (.slice none 0 0), .int .i64 12]) ∧ Mine a gd size all w' := by
  have H := Lib.hid h
  obtain ⟨P, rfl, h2, h3, h4⟩ := h
  refine (Get_none_rg h2 hl pos hp).mono ?_
  rintro e w' ⟨rfl, hb⟩
  exact ⟨rfl, H.out.on hb⟩

theorem Get_m (h : Mine a gd size all w) (hl : all.length ≤ 1000000) (i : Nat) (x : Slot × Int) (hi : tl all ≤ i) (hx : all[i]? = some x) : Calls Try.prog 28 #[ptr gd, .int .i64 i] w fun e w' => ∃ v, e = .returned (.tuple #[slotV x.1 v, .int .i64 0]) ∧ Own w' w.heap.size 5 v x.1.d ∧ Below w.heap.size w w' ∧ Mine a gd size all w' := by
  have H := Lib.hid h
  obtain ⟨P, rfl, h2, h3, h4⟩ := h
  refine (Get_rg h2 hl i x hi hx).mono ?_
  rintro e w' ⟨v, rfl, ho, hb⟩
  exact ⟨v, rfl, ho, hb, H.out.on hb⟩

theorem Find_m (h : Mine a gd size all w) (hl : all.length ≤ 1000000) (lba : Int) : Calls Try.prog 30 #[ptr gd, .int .i64 lba] w fun e w' => (match find all lba with | none => e = .returned (.tuple #[.int .i64 0, .bool false]) | some i => e = .returned (.tuple #[.int .i64 i, .bool true])) ∧ Mine a gd size all w' := by
  have H := Lib.hid h
  obtain ⟨P, rfl, h2, h3, h4⟩ := h
  refine (Find_rg h2 hl lba).mono ?_
  rintro e w' ⟨he, hb⟩
  exact ⟨he, H.out.on hb⟩
end

set_option maxHeartbeats 1000000 in
theorem awake_any (w : World) : Calls Try.prog 10 #[] w fun e w' => e = .returned (.bool true) ∧ Below w.heap.size w w' := by
  go_enter Try.func10, Try.ntmps10
  go_wp2_with fail
  refine (New_m w w (Below.refl _ _) 1 (by omega) (by omega)).mono ?_
  rintro e w1 ⟨gd, rfl, h⟩
  have H := Lib.hid h
  clear h
  go_wp2_with fail
  refine (Put_m H.out (by simp) (by omega) (by omega) (by decide) ⟨0, 7, 0, [], 0⟩ none 0 0 (by omega) (bytes_none _ _)).mono ?_
  rintro e w2 ⟨rfl, h⟩
  replace H := Lib.hid h
  clear h
  go_wp2_with fail
  refine (Take_m H.out (by simp) 1).mono ?_
  rintro e w3 ⟨u, rfl, ho, h⟩
  obtain ⟨A, m, c, rfl⟩ := ho.form
  obtain rfl : 1 = m := ho.len
  replace H : Hid (Mine w gd 1 [(⟨0, 7, 0, [], 0⟩, 1)] w3) := Lib.hid h
  clear h ho
  go_wp2_with fail
  refine (Done_m H.out (by simp) 0 (⟨0, 7, 0, [], 0⟩, 1) (Nat.zero_le _) rfl rfl).mono ?_
  rintro e w4 ⟨rfl, h⟩
  replace H : Hid (Mine w gd 1 [(⟨0, 7, 0, [], 0⟩, 2)] w4) := Lib.hid h
  clear h
  go_wp2_with fail
  refine (Tail_m H.out).mono ?_
  rintro e w5 ⟨rfl, h⟩
  replace H := Lib.hid h
  clear h
  rw [show tl [((⟨0, 7, 0, [], 0⟩, 2) : Slot × Int)] = 1 from rfl]
  go_wp2_with fail
  refine (Head_m H.out (by simp)).mono ?_
  rintro e w6 ⟨rfl, h⟩
  replace H := Lib.hid h
  clear h
  go_wp2
  go_ret
  exact ⟨rfl, H.out.below⟩
end Go.Proofs.Ytecmmihobojjpaa.RingLaw
