/-
  The program's queues and the document's, side by side: what each call does to the pair.
-/
import Derived.Test.YtkpneckgpolaoaaQueueKit
import Derived.Test.YtkpneckgpolaoaaQueueRefD
namespace Go.Proofs.Ytkpneckgpolaoaa.QueueLaw
open Go.RowKit Queue QueuePkg QueueRef
set_option maxRecDepth 4000

/-- Both hold the same jobs. -/
structure Rel (ch : Int) (q : Js) (l : List Ld) : Prop where
  same : ∀ c : Int, jobs ch q c = of l c
  in_ : ∀ x ∈ l, 0 ≤ x.c ∧ x.c < ch

theorem Rel.nil (ch : Int) : Rel ch (fun _ => []) [] := ⟨fun c => by unfold jobs; split <;> rfl, fun x hx => by simp at hx⟩

theorem jobs_upd {ch : Int} {q : Js} {c d : Int} (hc : 0 ≤ c ∧ c < ch) (l : List Jb) : jobs ch (upd q c.toNat l) d = if d = c then l else jobs ch q d := by
  by_cases hd : d = c
  · subst hd
    rw [jobs, if_pos hc, if_pos rfl, upd_same]
  · rw [if_neg hd]
    unfold jobs
    split
    · rw [upd_other _ (by omega)]
    · rfl

theorem Rel.put {ch : Int} {q : Js} {l : List Ld} (h : Rel ch q l) (c : Int) (j : Jb) : Rel ch (putQ ch q c j) (if 0 ≤ c ∧ c < ch then l ++ [⟨c, j, false⟩] else l) := by
  by_cases hc : 0 ≤ c ∧ c < ch
  · rw [putQ, if_pos hc, if_pos hc]
    refine ⟨fun d => ?_, fun x hx => ?_⟩
    · rw [jobs_upd hc, of_snoc]
      split
      · rename_i e
        subst e
        rw [← h.same, jobs, if_pos hc]
      · exact h.same d
    · rcases List.mem_append.1 hx with hx | hx
      · exact h.in_ x hx
      · rw [List.mem_singleton.1 hx]
        exact hc
  · rw [putQ, if_neg hc, if_neg hc]
    exact h

theorem Rel.pop {ch : Int} {q : Js} {l l' : List Ld} {c : Int} (h : Rel ch q l) (hl : QueueRef.Left l l' c) : Rel ch (popQ ch q c) l' := by
  obtain ⟨h1, h2, _, h4⟩ := hl
  refine ⟨fun d => ?_, h4 ch h.in_⟩
  by_cases hc : 0 ≤ c ∧ c < ch
  · rw [popQ, if_pos hc, jobs_upd hc]
    split
    · rename_i e
      subst e
      rw [h1, ← h.same, jobs, if_pos hc]
    · rename_i e
      rw [h2 d e]
      exact h.same d
  · rw [popQ, if_neg hc]
    by_cases e : d = c
    · subst e
      rw [h1, ← h.same, jobs, if_neg hc]
      rfl
    · rw [h2 d e]
      exact h.same d

theorem of_len (l : List Ld) (c : Int) : (of l c).length ≤ l.length := by
  unfold of
  rw [List.length_map]
  exact List.length_filter_le _ _

theorem Rel.busy {ch : Int} {q : Js} {l : List Ld} (h : Rel ch q l) (h4 : ch ≤ 4) (hb : ∀ c : Nat, ch ≤ (c : Int) → c < 4 → q c = []) (z : Int) : many l z = busy q z := by
  have hq : ∀ c : Nat, c < 4 → of l (c : Int) = q c := fun c hc => by
    rw [← h.same]
    by_cases h1 : (c : Int) < ch
    · rw [jobs, if_pos ⟨by omega, h1⟩, Int.toNat_natCast]
    · rw [jobs, if_neg (by omega), hb c (by omega) hc]
  rw [many_eq l z (fun x hx => ⟨(h.in_ x hx).1, by have := (h.in_ x hx).2; omega⟩)]
  have h0 := hq 0 (by omega)
  have h1 := hq 1 (by omega)
  have h2 := hq 2 (by omega)
  have h3 := hq 3 (by omega)
  simp only [Int.cast_ofNat_Int] at h0 h1 h2 h3
  rw [show of l 0 = q 0 from h0, show of l 1 = q 1 from h1, show of l 2 = q 2 from h2, show of l 3 = q 3 from h3]
  rfl

/-- The program's queues at g hold q, the document's at r were put l; all their memory is newer than a, and apart; of a nothing has turned; the blocks S are none of theirs. -/
def Two (a : World) (g r : Nat) (ch : Int) (q : Js) (l : List Ld) (S : Nat → Prop) (w : World) : Prop :=
  ∃ (P : QueuePkg.Pl) (K : QueueRef.Pl), P.g = g ∧ K.g = r ∧ Q w P ch q ∧ R w K ch l ∧ (∀ b, K.own b → ¬ P.own b) ∧ (∀ b, P.own b → a.heap.size ≤ b) ∧ (∀ b, K.own b → a.heap.size ≤ b) ∧ Below a.heap.size a w ∧ ∀ b, S b → (¬ P.own b ∧ ¬ K.own b) ∧ b < w.heap.size

section
variable {a w w' : World} {g r : Nat} {ch : Int} {q : Js} {l : List Ld} {S S' : Nat → Prop}

theorem Two.below (h : Two a g r ch q l S w) : Below a.heap.size a w := by obtain ⟨_, _, _, _, _, _, _, _, _, h, _⟩ := h; exact h

theorem Two.top (h : Two a g r ch q l S w) : 1 ≤ ch ∧ ch ≤ 4 := by obtain ⟨_, _, _, _, h, _⟩ := h; exact h.top

theorem Two.bare (h : Two a g r ch q l S w) {c : Nat} (h0 : ch ≤ (c : Int)) (h4 : c < 4) : q c = [] := by obtain ⟨_, _, _, _, h, _⟩ := h; exact h.bare h0 h4

theorem Two.pos (h : Two a g r ch q l S w) (c : Int) : ∀ j ∈ jobs ch q c, In64 j.d ∧ j.d.length ≤ 1000000000 := by obtain ⟨_, _, _, _, h, _⟩ := h; exact h.pos c

theorem Two.on (h : Two a g r ch q l S w) (hb : Below w.heap.size w w') (hS : ∀ b, S' b → S b ∨ (w.heap.size ≤ b ∧ b < w'.heap.size)) : Two a g r ch q l S' w' := by
  obtain ⟨P, K, h1, h2, h3, h4, h5, h6, h7, h8, h9⟩ := h
  refine ⟨P, K, h1, h2, h3.below hb, h4.below hb, h5, h6, h7, h8.trans (hb.mono h8.size), fun b hs => ?_⟩
  rcases hS b hs with h | h
  · exact ⟨(h9 b h).1, Nat.lt_of_lt_of_le (h9 b h).2 hb.size⟩
  · exact ⟨⟨fun ho => by have := h3.lt b ho; omega, fun ho => by have := h4.lt b ho; omega⟩, h.2⟩

theorem Two.same (h : Two a g r ch q l S w) (hb : Below w.heap.size w w') : Two a g r ch q l S w' := h.on hb fun _ h => .inl h

theorem Two.less (h : Two a g r ch q l S w) (hS : ∀ b, S' b → S b) : Two a g r ch q l S' w := by
  obtain ⟨P, K, h1, h2, h3, h4, h5, h6, h7, h8, h9⟩ := h
  exact ⟨P, K, h1, h2, h3, h4, h5, h6, h7, h8, fun b hs => h9 b (hS b hs)⟩

theorem Put1 (h : Two a g r ch q l S w) (c : Int) (j : Jb) (A : Option Addr) (n m B : Nat) (hn : n ≤ 1000000000) (hr : Nums w B A n j.d) (hB : B ≤ w.heap.size) (hl : (jobs ch q c).length ≤ 1000000000) :
    Calls Try.prog 16 #[ptr g, .int .i64 c, jobV j (.slice A n m)] w fun e w' => e = .returned (.int .i64 (putE ch c)) ∧ Two a g r ch (putQ ch q c j) l S w' ∧ Still S w w' ∧ w.heap.size ≤ w'.heap.size := by
  obtain ⟨P, K, rfl, rfl, h3, h4, h5, h6, h7, h8, h9⟩ := h
  refine (Put_q h3 c j A n m B hn hr hB hl).mono ?_
  rintro e w' ⟨rfl, P', hg, hq, ht⟩
  have hS : ∀ b, S b → ¬ P.own b ∧ b < w.heap.size := fun b hb => ⟨(h9 b hb).1.1, (h9 b hb).2⟩
  exact ⟨rfl, ⟨P', K, hg, rfl, hq, h4.turn ht h5, ht.apart h4.lt h5, ht.up h6 h8.size, h7, below_turn h8 ht h6 h8.size, fun b hb => ⟨⟨(apart_turn ht hS b hb).1, (h9 b hb).1.2⟩, (apart_turn ht hS b hb).2⟩⟩, still_turn ht hS, ht.size⟩

theorem Put2 (h : Two a g r ch q l S w) (c : Int) (j : Jb) (A : Option Addr) (n m B : Nat) (hn : n ≤ 1000000000) (hr : Nums w B A n j.d) (hB : B ≤ w.heap.size) (hl : l.length ≤ 1000000000) :
    Calls Try.prog 21 #[ptr r, .int .i64 c, jobV j (.slice A n m)] w fun e w' => e = .returned (.int .i64 (putE ch c)) ∧ Two a g r ch q (if 0 ≤ c ∧ c < ch then l ++ [⟨c, j, false⟩] else l) S w' ∧ Still S w w' ∧ w.heap.size ≤ w'.heap.size := by
  obtain ⟨P, K, rfl, rfl, h3, h4, h5, h6, h7, h8, h9⟩ := h
  refine (rPut_r h4 c j A n m B hn hr hB hl).mono ?_
  rintro e w' ⟨rfl, K', hg, hq, ht⟩
  have hS : ∀ b, S b → ¬ K.own b ∧ b < w.heap.size := fun b hb => ⟨(h9 b hb).1.2, (h9 b hb).2⟩
  have h5' : ∀ b, P.own b → ¬ K.own b := fun b hb hk => h5 b hk hb
  exact ⟨rfl, ⟨P, K', rfl, hg, h3.turn ht h5', hq, fun b hk hp => ht.apart h3.lt h5' b hp hk, h6, ht.up h7 h8.size, below_turn h8 ht h7 h8.size, fun b hb => ⟨⟨(h9 b hb).1.1, (apart_turn ht hS b hb).1⟩, (apart_turn ht hS b hb).2⟩⟩, still_turn ht hS, ht.size⟩

theorem First1 (h : Two a g r ch q l S w) (c : Int) :
    Calls Try.prog 11 #[ptr g, .int .i64 c] w fun e w' => ∃ v, e = .returned (.tuple #[jobV (head (jobs ch q c)) v, .bool (!(jobs ch q c).isEmpty)]) ∧ OwnI w' w.heap.size 3 v (head (jobs ch q c)).d ∧ Below w.heap.size w w' := by
  obtain ⟨P, K, rfl, rfl, h3, _⟩ := h
  exact First_q h3 c

theorem First2 (h : Two a g r ch q l S w) (c : Int) (hl : l.length ≤ 1000000000) :
    Calls Try.prog 23 #[ptr r, .int .i64 c] w fun e w' => ∃ v, e = .returned (.tuple #[jobV (head (of l c)) v, .bool (!(of l c).isEmpty)]) ∧ OwnI w' w.heap.size 3 v (head (of l c)).d ∧ Below w.heap.size w w' := by
  obtain ⟨P, K, rfl, rfl, _, h4, _⟩ := h
  exact rFirst_r h4 c hl

theorem Pop1 (h : Two a g r ch q l S w) (c : Int) :
    Calls Try.prog 17 #[ptr g, .int .i64 c] w fun e w' => ∃ v, e = .returned (.tuple #[jobV (head (jobs ch q c)) v, .bool (!(jobs ch q c).isEmpty)]) ∧ OwnI w' w.heap.size 3 v (head (jobs ch q c)).d ∧ Two a g r ch (popQ ch q c) l (fun b => S b ∨ v.ownBlock = some b) w' ∧ Still S w w' ∧ w.heap.size ≤ w'.heap.size := by
  obtain ⟨P, K, rfl, rfl, h3, h4, h5, h6, h7, h8, h9⟩ := h
  refine (Pop_q h3 c).mono ?_
  rintro e w' ⟨v, P', rfl, ho, hg, hq, ht, hn⟩
  have hS : ∀ b, S b → ¬ P.own b ∧ b < w.heap.size := fun b hb => ⟨(h9 b hb).1.1, (h9 b hb).2⟩
  refine ⟨v, rfl, ho, ⟨P', K, hg, rfl, hq, h4.turn ht h5, ht.apart h4.lt h5, ht.up h6 h8.size, h7, below_turn h8 ht h6 h8.size, fun b hb => ?_⟩, still_turn ht hS, ht.size⟩
  rcases hb with hb | hb
  · exact ⟨⟨(apart_turn ht hS b hb).1, (h9 b hb).1.2⟩, (apart_turn ht hS b hb).2⟩
  · exact ⟨⟨hn b hb, fun hk => by have := h4.lt b hk; have := ho.block b hb; omega⟩, ho.lt b hb⟩

theorem Pop2 (h : Two a g r ch q l S w) (c : Int) (hl : l.length ≤ 1000000000) :
    Calls Try.prog 22 #[ptr r, .int .i64 c] w fun e w' => ∃ v l', e = .returned (.tuple #[jobV (head (of l c)) v, .bool (!(of l c).isEmpty)]) ∧ OwnI w' w.heap.size 3 v (head (of l c)).d ∧ QueueRef.Left l l' c ∧ Two a g r ch q l' S w' ∧ Still S w w' ∧ w.heap.size ≤ w'.heap.size := by
  obtain ⟨P, K, rfl, rfl, h3, h4, h5, h6, h7, h8, h9⟩ := h
  refine (rPop_r h4 c hl).mono ?_
  rintro e w' ⟨v, l', rfl, ho, hq, hL, ht⟩
  have hS : ∀ b, S b → ¬ K.own b ∧ b < w.heap.size := fun b hb => ⟨(h9 b hb).1.2, (h9 b hb).2⟩
  have h5' : ∀ b, P.own b → ¬ K.own b := fun b hb hk => h5 b hk hb
  exact ⟨v, l', rfl, ho, hL, ⟨P, K, rfl, rfl, h3.turn ht h5', hq, h5, h6, h7, below_turn h8 ht h7 h8.size, fun b hb => ⟨(h9 b hb).1, (apart_turn ht hS b hb).2⟩⟩, still_turn ht hS, ht.size⟩

theorem Len1 (h : Two a g r ch q l S w) (c : Int) :
    Calls Try.prog 13 #[ptr g, .int .i64 c] w fun e w' => e = .returned (.int .i64 (jobs ch q c).length) ∧ w' = w := by
  obtain ⟨P, K, rfl, rfl, h3, _⟩ := h
  exact Len_q h3 c

theorem Len2 (h : Two a g r ch q l S w) (c : Int) (hl : l.length ≤ 1000000000) :
    Calls Try.prog 24 #[ptr r, .int .i64 c] w fun e w' => e = .returned (.int .i64 (of l c).length) ∧ w' = w := by
  obtain ⟨P, K, rfl, rfl, _, h4, _⟩ := h
  exact rLen_r h4 c hl

theorem Busy1 (h : Two a g r ch q l S w) (hl : ∀ c, c < 4 → (q c).length ≤ 1000000000) (z : Int) :
    Calls Try.prog 14 #[ptr g, .int .i64 z] w fun e w' => e = .returned (.int .i64 (busy q z : Nat)) ∧ Below w.heap.size w w' := by
  obtain ⟨P, K, rfl, rfl, h3, _⟩ := h
  exact Busy_q h3 hl z

theorem Busy2 (h : Two a g r ch q l S w) (z : Int) (hl : l.length ≤ 1000000000) :
    Calls Try.prog 25 #[ptr r, .int .i64 z] w fun e w' => e = .returned (.int .i64 (many l z : Nat)) ∧ w' = w := by
  obtain ⟨P, K, rfl, rfl, _, h4, _⟩ := h
  exact rBusy_r h4 z hl

theorem Two.new (h1 : 1 ≤ ch) (h4 : ch ≤ 4) (h : Mine a g ch (fun _ => []) S w) : Calls Try.prog 10 #[.int .i64 ch] w fun e w' => e = .returned (.tuple #[ptr w.heap.size, .int .i64 0]) ∧ Two a g w.heap.size ch (fun _ => []) [] S w' := by
  refine (rNew_ok ch h1 h4 w).mono ?_
  rintro e w' ⟨rfl, rfl⟩
  obtain ⟨P, e1, e2, e3, e4, e5⟩ := h
  have hbn : Below w.heap.size w (w.alloc (.cells #[.int .i64 ch, .slice none 0 0] 53)) := (Below.refl _ _).alloc (Nat.le_refl _) _
  have ho : ∀ b, QueueRef.Pl.own ⟨w.heap.size, .slice none 0 0, fun _ => False⟩ b → b = w.heap.size := by
    rintro b (rfl | hb | hb)
    · rfl
    · simp [Value.ownBlock] at hb
    · exact False.elim hb
  refine ⟨rfl, P, _, e1, rfl, e2.below hbn, R.new w ch, fun b hb hp => ?_, e3, fun b hb => ?_, e4.trans (hbn.mono e4.size), fun b hb => ⟨⟨(e5 b hb).1, fun hk => ?_⟩, ?_⟩⟩
  · have := ho b hb
    have := e2.lt b hp
    omega
  · rw [ho b hb]
    exact e4.size
  · have := ho b hk
    have := (e5 b hb).2
    omega
  · have := (e5 b hb).2
    simp
    omega
end

end Go.Proofs.Ytkpneckgpolaoaa.QueueLaw
