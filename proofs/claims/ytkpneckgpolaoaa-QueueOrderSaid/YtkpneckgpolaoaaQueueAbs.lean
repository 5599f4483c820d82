/-
  What the calls of package queue do, told by the jobs alone.
-/
import Derived.Test.YtkpneckgpolaoaaQueuePut
namespace Go.Proofs.Ytkpneckgpolaoaa.QueuePkg
open Go.RowKit Queue
set_option maxRecDepth 4000

theorem Q.top {w : World} {P : Pl} {ch : Int} {q : Js} (h : Q w P ch q) : 1 ≤ ch ∧ ch ≤ 4 := by obtain ⟨rs, h1, _⟩ := h; exact ⟨h1.pos, h1.top⟩

theorem Q.new (w : World) (ch : Int) (h1 : 1 ≤ ch) (h4 : ch ≤ 4) : Q (w.alloc (.cells #[.int .i64 ch, .slice none 0 0, .slice none 0 0, .slice none 0 0, .slice none 0 0] 50)) ⟨w.heap.size, fun _ => .slice none 0 0, fun _ => False⟩ ch (fun _ => []) :=
  ⟨_, Qs.new w ch h1 h4, fun _ => rfl⟩

theorem Q.bare {w : World} {P : Pl} {ch : Int} {q : Js} (h : Q w P ch q) {c : Nat} (h0 : ch ≤ (c : Int)) (h4 : c < 4) : q c = [] := by
  obtain ⟨rs, h1, h2⟩ := h
  rw [← h2, h1.bare c h0 h4]
  rfl

/-- The positions of a job are ints, and not too many. -/
theorem Q.pos {w : World} {P : Pl} {ch : Int} {q : Js} (h : Q w P ch q) (c : Int) : ∀ j ∈ jobs ch q c, In64 j.d ∧ j.d.length ≤ 1000000000 := by
  obtain ⟨rs, h1, h2⟩ := h
  intro j hj
  unfold jobs at hj
  split at hj
  · rename_i hc
    rw [← h2, List.mem_map] at hj
    obtain ⟨r, hr, rfl⟩ := hj
    obtain ⟨A, k, _, _, _, h3, h4⟩ := h1.data c.toNat (by have := h1.top; omega) r hr
    exact ⟨h4.in64, h3⟩
  · cases hj

theorem head_pos {l : List Jb} (h : ∀ j ∈ l, In64 j.d ∧ j.d.length ≤ 1000000000) : In64 (head l).d ∧ (head l).d.length ≤ 1000000000 := by
  cases l with
  | nil => exact ⟨fun z hz => by simp [head, zero] at hz, by simp [head, zero]⟩
  | cons j l => exact h j (by simp)

theorem Put_q {w : World} {P : Pl} {ch : Int} {q : Js} (h : Q w P ch q) (c : Int) (j : Jb) (A : Option Addr) (n m B : Nat) (hn : n ≤ 1000000000) (hr : Nums w B A n j.d) (hB : B ≤ w.heap.size) (hl : (jobs ch q c).length ≤ 1000000000) :
    Calls Try.prog 16 #[ptr P.g, .int .i64 c, jobV j (.slice A n m)] w fun e w' => e = .returned (.int .i64 (putE ch c)) ∧ ∃ P' : Pl, P'.g = P.g ∧ Q w' P' ch (putQ ch q c j) ∧ Turn P.own P'.own w w' := by
  obtain ⟨rs, h1, h2⟩ := h
  by_cases hc : 0 ≤ c ∧ c < ch
  · rw [putE, putQ, if_pos hc, if_pos hc]
    rw [jobs, if_pos hc, ← h2, List.length_map] at hl
    obtain ⟨k, rfl⟩ : ∃ k : Nat, c = (k : Int) := ⟨c.toNat, by omega⟩
    rw [Int.toNat_natCast] at hl ⊢
    refine (Put_in h1 k hc.2 j A n m B hn hr hB hl).mono ?_
    rintro e w' ⟨rfl, P', r, rfl, hg, hq, ht⟩
    refine ⟨rfl, P', hg, ⟨_, hq, fun i => ?_⟩, ht⟩
    show (if i = k then rs k ++ [r] else rs i).map Row.j = (if i = k then q k ++ [r.j] else q i)
    split
    · rw [List.map_append, h2]
      rfl
    · exact h2 i
  · rw [putE, putQ, if_neg hc, if_neg hc]
    refine (Put_out h1 c hc j A n m).mono ?_
    rintro e w' ⟨rfl, hb⟩
    exact ⟨rfl, P, rfl, ⟨rs, h1.below hb, h2⟩, Turn.of_below _ hb⟩

theorem none_of {w : World} {P : Pl} {ch : Int} {rs : Nat → List Row} {q : Js} (_h : Qs w P ch rs) (h2 : ∀ c, (rs c).map Row.j = q c) {c : Int} (hj : jobs ch q c = []) : ∀ k : Nat, c = (k : Int) → (k : Int) < ch → rs k = [] := by
  rintro k rfl hk
  rw [jobs, if_pos (by omega), Int.toNat_natCast, ← h2] at hj
  exact List.map_eq_nil_iff.1 hj

theorem some_of {w : World} {P : Pl} {ch : Int} {rs : Nat → List Row} {q : Js} (_h : Qs w P ch rs) (h2 : ∀ c, (rs c).map Row.j = q c) {c : Int} {j : Jb} {l : List Jb} (hj : jobs ch q c = j :: l) : ∃ (k : Nat) (r : Row) (m : List Row), c = (k : Int) ∧ (k : Int) < ch ∧ rs k = r :: m ∧ r.j = j ∧ m.map Row.j = l := by
  unfold jobs at hj
  split at hj
  · rename_i hc
    refine ⟨c.toNat, ?_⟩
    rw [← h2] at hj
    cases hr : rs c.toNat with
    | nil => rw [hr] at hj; cases hj
    | cons r m =>
      rw [hr] at hj
      injection hj with e1 e2
      exact ⟨r, m, by omega, by omega, rfl, e1, e2⟩
  · cases hj

theorem First_q {w : World} {P : Pl} {ch : Int} {q : Js} (h : Q w P ch q) (c : Int) :
    Calls Try.prog 11 #[ptr P.g, .int .i64 c] w fun e w' => ∃ v, e = .returned (.tuple #[jobV (head (jobs ch q c)) v, .bool (!(jobs ch q c).isEmpty)]) ∧ OwnI w' w.heap.size 3 v (head (jobs ch q c)).d ∧ Below w.heap.size w w' := by
  obtain ⟨rs, h1, h2⟩ := h
  cases hj : jobs ch q c with
  | nil =>
    refine (First_none h1 c (none_of h1 h2 hj)).mono ?_
    rintro e w' ⟨rfl, hb⟩
    exact ⟨_, rfl, ownI_nil _ _ _, hb⟩
  | cons j l =>
    obtain ⟨k, r, m, rfl, hk, hr, rfl, rfl⟩ := some_of h1 h2 hj
    refine (First_some h1 k hk r m hr).mono ?_
    rintro e w' ⟨v, rfl, ho, hb⟩
    exact ⟨v, rfl, ho, hb⟩

theorem Pop_q {w : World} {P : Pl} {ch : Int} {q : Js} (h : Q w P ch q) (c : Int) :
    Calls Try.prog 17 #[ptr P.g, .int .i64 c] w fun e w' => ∃ v P', e = .returned (.tuple #[jobV (head (jobs ch q c)) v, .bool (!(jobs ch q c).isEmpty)]) ∧ OwnI w' w.heap.size 3 v (head (jobs ch q c)).d ∧ P'.g = P.g ∧ Q w' P' ch (popQ ch q c) ∧ Turn P.own P'.own w w' ∧ ∀ b, v.ownBlock = some b → ¬ P'.own b := by
  obtain ⟨rs, h1, h2⟩ := h
  cases hj : jobs ch q c with
  | nil =>
    refine (Pop_none h1 c (none_of h1 h2 hj)).mono ?_
    rintro e w' ⟨rfl, hb⟩
    refine ⟨_, P, rfl, ownI_nil _ _ _, rfl, ⟨rs, h1.below hb, fun i => ?_⟩, Turn.of_below _ hb, fun b hb => by simp [Value.ownBlock] at hb⟩
    rw [h2]
    unfold popQ
    unfold jobs at hj
    split
    · rename_i hc
      rw [if_pos hc] at hj
      by_cases hi : i = c.toNat
      · rw [hi, upd_same, hj]
        rfl
      · rw [upd_other _ hi]
    · rfl
  | cons j l =>
    obtain ⟨k, r, m, rfl, hk, hr, rfl, rfl⟩ := some_of h1 h2 hj
    refine (Pop_some h1 k hk r m hr).mono ?_
    rintro e w' ⟨v, P', rfl, ho, hg, hq, ht, hn⟩
    refine ⟨v, P', rfl, ho, hg, ⟨_, hq, fun i => ?_⟩, ht, hn⟩
    rw [popQ, if_pos (show 0 ≤ (k : Int) ∧ (k : Int) < ch by omega), Int.toNat_natCast]
    show (if i = k then m else rs i).map Row.j = (if i = k then (q k).drop 1 else q i)
    split
    · rw [← h2, hr]
      rfl
    · exact h2 i

theorem Len_q {w : World} {P : Pl} {ch : Int} {q : Js} (h : Q w P ch q) (c : Int) :
    Calls Try.prog 13 #[ptr P.g, .int .i64 c] w fun e w' => e = .returned (.int .i64 (jobs ch q c).length) ∧ w' = w := by
  obtain ⟨rs, h1, h2⟩ := h
  by_cases hc : 0 ≤ c ∧ c < ch
  · rw [jobs, if_pos hc]
    obtain ⟨k, rfl⟩ : ∃ k : Nat, c = (k : Int) := ⟨c.toNat, by omega⟩
    rw [Int.toNat_natCast, ← h2, List.length_map]
    exact Len_in h1 k hc.2
  · rw [jobs, if_neg hc]
    exact Len_out h1 c hc

theorem Busy_q {w : World} {P : Pl} {ch : Int} {q : Js} (h : Q w P ch q) (hl : ∀ c, c < 4 → (q c).length ≤ 1000000000) (z : Int) :
    Calls Try.prog 14 #[ptr P.g, .int .i64 z] w fun e w' => e = .returned (.int .i64 (busy q z : Nat)) ∧ Below w.heap.size w w' := by
  obtain ⟨rs, h1, h2⟩ := h
  have hq : (fun c => (rs c).map Row.j) = q := funext h2
  have h := Busy_any h1 (fun c hc => by have := hl c hc; rw [← h2, List.length_map] at this; exact this) z
  rw [hq] at h
  exact h

end Go.Proofs.Ytkpneckgpolaoaa.QueuePkg
