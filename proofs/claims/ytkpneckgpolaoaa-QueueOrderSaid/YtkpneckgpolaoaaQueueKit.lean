/-
  Queues that a law has made: what their calls do, in short; the laws' own 'awake' of layer 16.
-/
import Derived.Test.YtkpneckgpolaoaaQueueAbs
import Derived.Test.YtkpneckgpolaoaaLawKit
namespace Go.Proofs.Ytkpneckgpolaoaa.QueueLaw
open Go.RowKit Queue QueuePkg
set_option maxRecDepth 4000

/-- The blocks of S are as they were. -/
def Still (S : Nat → Prop) (w w' : World) : Prop := ∀ b, S b → w'.heap[b]? = w.heap[b]?

/-- Queues whose block is g, all of whose memory is newer than a; of a nothing has turned; the blocks S are none of theirs. -/
def Mine (a : World) (g : Nat) (ch : Int) (q : Js) (S : Nat → Prop) (w : World) : Prop := ∃ P : Pl, P.g = g ∧ Q w P ch q ∧ (∀ b, P.own b → a.heap.size ≤ b) ∧ Below a.heap.size a w ∧ ∀ b, S b → ¬ P.own b ∧ b < w.heap.size

theorem below_turn {O O' : Nat → Prop} {a w w' : World} {B : Nat} (h : Below B a w) (ht : Turn O O' w w') (ho : ∀ b, O b → B ≤ b) (hB : B ≤ w.heap.size) : Below B a w' := h.trans (ht.below ho hB)

theorem still_turn {O O' : Nat → Prop} {S : Nat → Prop} {w w' : World} (ht : Turn O O' w w') (hS : ∀ b, S b → ¬ O b ∧ b < w.heap.size) : Still S w w' := fun b hb => ht.block b (hS b hb).2 (hS b hb).1

theorem apart_turn {O O' : Nat → Prop} {S : Nat → Prop} {w w' : World} (ht : Turn O O' w w') (hS : ∀ b, S b → ¬ O b ∧ b < w.heap.size) : ∀ b, S b → ¬ O' b ∧ b < w'.heap.size := fun b hb =>
  ⟨fun ho => (ht.own b ho).elim (hS b hb).1 (fun h => by have := (hS b hb).2; omega), Nat.lt_of_lt_of_le (hS b hb).2 ht.size⟩

section
variable {a w w' : World} {g : Nat} {ch : Int} {q : Js} {S S' : Nat → Prop}

theorem Mine.below (h : Mine a g ch q S w) : Below a.heap.size a w := by obtain ⟨P, _, _, _, h, _⟩ := h; exact h

theorem Mine.on (h : Mine a g ch q S w) (hb : Below w.heap.size w w') (hS : ∀ b, S' b → S b ∨ (w.heap.size ≤ b ∧ b < w'.heap.size)) : Mine a g ch q S' w' := by
  obtain ⟨P, h1, h2, h3, h4, h5⟩ := h
  refine ⟨P, h1, h2.below hb, h3, h4.trans (hb.mono h4.size), fun b hs => ?_⟩
  rcases hS b hs with h | h
  · exact ⟨(h5 b h).1, Nat.lt_of_lt_of_le (h5 b h).2 hb.size⟩
  · exact ⟨fun ho => by have := h2.lt b ho; omega, h.2⟩

theorem Mine.same (h : Mine a g ch q S w) (hb : Below w.heap.size w w') : Mine a g ch q S w' := h.on hb fun _ h => .inl h

theorem Mine.still (h : Mine a g ch q S w) (hb : Below w.heap.size w w') : Still S w w' := by
  obtain ⟨P, _, _, _, _, h5⟩ := h
  exact fun b hs => hb.block b (h5 b hs).2

theorem Mine.less (h : Mine a g ch q S w) (hS : ∀ b, S' b → S b) : Mine a g ch q S' w := by
  obtain ⟨P, h1, h2, h3, h4, h5⟩ := h
  exact ⟨P, h1, h2, h3, h4, fun b hs => h5 b (hS b hs)⟩

theorem Mine.pos (h : Mine a g ch q S w) (c : Int) : ∀ j ∈ jobs ch q c, In64 j.d ∧ j.d.length ≤ 1000000000 := by obtain ⟨P, _, h, _⟩ := h; exact h.pos c

theorem New_m (ch : Int) (h1 : 1 ≤ ch) (h4 : ch ≤ 4) (hb : Below a.heap.size a w) (hS : ∀ b, S b → b < w.heap.size) : Calls Try.prog 9 #[.int .i64 ch] w fun e w' => e = .returned (.tuple #[ptr w.heap.size, .int .i64 0]) ∧ Mine a w.heap.size ch (fun _ => []) S w' ∧ Below w.heap.size w w' := by
  refine (New_ok ch h1 h4 w).mono ?_
  rintro e w' ⟨rfl, rfl⟩
  have hbn : Below w.heap.size w (w.alloc (.cells #[.int .i64 ch, .slice none 0 0, .slice none 0 0, .slice none 0 0, .slice none 0 0] 50)) := (Below.refl _ _).alloc (Nat.le_refl _) _
  have ho : ∀ b, Pl.own ⟨w.heap.size, fun _ => .slice none 0 0, fun _ => False⟩ b → b = w.heap.size := by
    rintro b (rfl | ⟨c, _, hb⟩ | hb)
    · rfl
    · simp [Value.ownBlock] at hb
    · exact False.elim hb
  refine ⟨rfl, ⟨_, rfl, Q.new w ch h1 h4, fun b hb2 => ?_, hb.trans (hbn.mono hb.size), fun b hs => ⟨fun hb2 => ?_, ?_⟩⟩, hbn⟩
  · rw [ho b hb2]
    exact hb.size
  · have := ho b hb2
    have := hS b hs
    omega
  · have := hS b hs
    simp
    omega

theorem Put_m (h : Mine a g ch q S w) (c : Int) (j : Jb) (A : Option Addr) (n m B : Nat) (hn : n ≤ 1000000000) (hr : Nums w B A n j.d) (hB : B ≤ w.heap.size) (hl : (jobs ch q c).length ≤ 1000000000) :
    Calls Try.prog 16 #[ptr g, .int .i64 c, jobV j (.slice A n m)] w fun e w' => e = .returned (.int .i64 (putE ch c)) ∧ Mine a g ch (putQ ch q c j) S w' ∧ Still S w w' ∧ w.heap.size ≤ w'.heap.size := by
  obtain ⟨P, rfl, h2, h3, h4, h5⟩ := h
  refine (Put_q h2 c j A n m B hn hr hB hl).mono ?_
  rintro e w' ⟨rfl, P', hg, hq, ht⟩
  exact ⟨rfl, ⟨P', hg, hq, ht.up h3 h4.size, below_turn h4 ht h3 h4.size, apart_turn ht h5⟩, still_turn ht h5, ht.size⟩

theorem First_m (h : Mine a g ch q S w) (c : Int) :
    Calls Try.prog 11 #[ptr g, .int .i64 c] w fun e w' => ∃ v, e = .returned (.tuple #[jobV (head (jobs ch q c)) v, .bool (!(jobs ch q c).isEmpty)]) ∧ OwnI w' w.heap.size 3 v (head (jobs ch q c)).d ∧ Below w.heap.size w w' := by
  obtain ⟨P, rfl, h2, _⟩ := h
  exact First_q h2 c

theorem Pop_m (h : Mine a g ch q S w) (c : Int) :
    Calls Try.prog 17 #[ptr g, .int .i64 c] w fun e w' => ∃ v, e = .returned (.tuple #[jobV (head (jobs ch q c)) v, .bool (!(jobs ch q c).isEmpty)]) ∧ OwnI w' w.heap.size 3 v (head (jobs ch q c)).d ∧ Mine a g ch (popQ ch q c) (fun b => S b ∨ v.ownBlock = some b) w' ∧ Still S w w' ∧ w.heap.size ≤ w'.heap.size := by
  obtain ⟨P, rfl, h2, h3, h4, h5⟩ := h
  refine (Pop_q h2 c).mono ?_
  rintro e w' ⟨v, P', rfl, ho, hg, hq, ht, hn⟩
  refine ⟨v, rfl, ho, ⟨P', hg, hq, ht.up h3 h4.size, below_turn h4 ht h3 h4.size, fun b hs => ?_⟩, still_turn ht h5, ht.size⟩
  rcases hs with hs | hs
  · exact apart_turn ht h5 b hs
  · exact ⟨hn b hs, ho.lt b hs⟩

theorem Len_m (h : Mine a g ch q S w) (c : Int) :
    Calls Try.prog 13 #[ptr g, .int .i64 c] w fun e w' => e = .returned (.int .i64 (jobs ch q c).length) ∧ w' = w := by
  obtain ⟨P, rfl, h2, _⟩ := h
  exact Len_q h2 c

theorem Busy_m (h : Mine a g ch q S w) (hl : ∀ c, c < 4 → (q c).length ≤ 1000000000) (z : Int) :
    Calls Try.prog 14 #[ptr g, .int .i64 z] w fun e w' => e = .returned (.int .i64 (busy q z : Nat)) ∧ Below w.heap.size w w' := by
  obtain ⟨P, rfl, h2, _⟩ := h
  exact Busy_q h2 hl z
end

theorem nums_nil (w : World) (B : Nat) : Nums w B none 0 [] := ⟨rfl, fun i hi => absurd hi (by simp)⟩

def ln (z : Int) : Jb := ⟨0, z, 0, 0, []⟩

theorem awake_any (w : World) : Calls Try.prog 8 #[] w fun e w' => e = .returned (.bool true) ∧ Below w.heap.size w w' := by
  have HN := Lib.hid (New_m (a := w) (w := w) (S := fun _ => False) 2 (by omega) (by omega) (Below.refl _ _) (fun b hb => hb.elim))
  have HP1 := Lib.hid (fun X (hX : Mine w w.heap.size 2 (fun _ => []) (fun _ => False) X) => Put_m hX 1 (ln 3) none 0 0 0 (by omega) (nums_nil _ _) (Nat.zero_le _) (by decide))
  have HP2 := Lib.hid (fun X (hX : Mine w w.heap.size 2 (putQ 2 (fun _ => []) 1 (ln 3)) (fun _ => False) X) => Put_m hX 1 (ln 4) none 0 0 0 (by omega) (nums_nil _ _) (Nat.zero_le _) (by decide))
  have HPO := Lib.hid (fun X (hX : Mine w w.heap.size 2 (putQ 2 (putQ 2 (fun _ => []) 1 (ln 3)) 1 (ln 4)) (fun _ => False) X) => Pop_m hX 1)
  have e1 : jobs 2 (putQ 2 (putQ 2 (fun _ => []) 1 (ln 3)) 1 (ln 4)) 1 = [ln 3, ln 4] := rfl
  have e2 : jobs 2 (popQ 2 (putQ 2 (putQ 2 (fun _ => []) 1 (ln 3)) 1 (ln 4)) 1) 1 = [ln 4] := rfl
  rw [e1] at HPO
  have HFI := Lib.hid (fun X S (hX : Mine w w.heap.size 2 (popQ 2 (putQ 2 (putQ 2 (fun _ => []) 1 (ln 3)) 1 (ln 4)) 1) S X) => First_m hX 1)
  have HLE := Lib.hid (fun X S (hX : Mine w w.heap.size 2 (popQ 2 (putQ 2 (putQ 2 (fun _ => []) 1 (ln 3)) 1 (ln 4)) 1) S X) => Len_m hX 1)
  simp only [e2] at HFI HLE
  clear e1 e2
  generalize popQ 2 (putQ 2 (putQ 2 (fun _ => []) 1 (ln 3)) 1 (ln 4)) 1 = q3 at HPO HFI HLE
  generalize putQ 2 (putQ 2 (fun _ => []) 1 (ln 3)) 1 (ln 4) = q2 at HP2 HPO
  generalize putQ 2 (fun _ => []) 1 (ln 3) = q1 at HP1 HP2
  go_enter Try.func8, Try.ntmps8
  go_wp2_with fail
  refine HN.out.mono ?_
  rintro e w1 ⟨rfl, hm, _⟩
  have HM := Lib.hid hm
  clear hm HN
  go_wp2_with fail
  refine (HP1.out _ HM.out).mono ?_
  rintro e w2 ⟨rfl, hm, _, _⟩
  replace HM := Lib.hid hm
  clear hm HP1
  go_wp2_with fail
  refine (HP2.out _ HM.out).mono ?_
  rintro e w3 ⟨rfl, hm, _, _⟩
  replace HM := Lib.hid hm
  clear hm HP2
  go_wp2_with fail
  refine (HPO.out _ HM.out).mono ?_
  rintro e w4 ⟨v, rfl, ho, hm, _, _⟩
  obtain ⟨A1, n1, c1, rfl⟩ := ho.form
  replace HM := Lib.hid hm
  clear hm HPO ho
  go_upto_region 7 with fail
  refine at_wld ?_
  intro Y hY
  have hf : Five Y w4.heap.size 32 (.int .i64 0) (.int .i64 3) (.int .i64 0) (.int .i64 0) (.slice A1 n1 c1) := by rw [hY]; exact Five.new w4 _ _ _ _ _ _
  have hb : Below w4.heap.size w4 Y := by rw [hY]; exact (Below.refl _ _).alloc (Nat.le_refl _) _
  have HF := Lib.hid hf
  replace HM := Lib.hid (HM.out.same hb)
  clear hf hb hY
  go_wp2_with fail
  refine (HFI.out _ _ HM.out).mono ?_
  rintro e w5 ⟨v, rfl, ho, hb⟩
  obtain ⟨A2, n2, c2, rfl⟩ := ho.form
  replace HM := Lib.hid (HM.out.same hb)
  replace HF := Lib.hid (HF.out.below hb)
  clear ho hb HFI
  go_upto_region 8 with fail
  refine at_wld ?_
  intro Z hZ
  have hf : Five Z w5.heap.size 32 (.int .i64 0) (.int .i64 4) (.int .i64 0) (.int .i64 0) (.slice A2 n2 c2) := by rw [hZ]; exact Five.new w5 _ _ _ _ _ _
  have hb : Below w5.heap.size w5 Z := by rw [hZ]; exact (Below.refl _ _).alloc (Nat.le_refl _) _
  obtain ⟨_, k1, _⟩ := (HF.out.below hb).cells
  obtain ⟨_, k2, _⟩ := hf.cells
  replace HM := Lib.hid (HM.out.same hb)
  clear hf hb hZ HF
  go_wp2_with fail
  refine (HLE.out _ _ HM.out).mono ?_
  rintro e w6 ⟨rfl, rfl⟩
  clear HLE
  go_wp2
  go_ret
  exact ⟨rfl, HM.out.below⟩

end Go.Proofs.Ytkpneckgpolaoaa.QueueLaw
