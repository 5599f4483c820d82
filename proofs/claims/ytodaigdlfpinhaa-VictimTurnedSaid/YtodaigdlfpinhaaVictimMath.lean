/-
  Plain mathematics of layer 13: lines, which may be collected, which is better, the order of those that may, and the first of them. Nothing of the program's code is named here.
-/
import Derived.Test.YtodaigdlfpinhaaBytes
namespace Go.Proofs.Ytodaigdlfpinhaa.Victim

/-- A line: its state, wear, good blocks, valid sectors, room. -/
structure Ln where
  st : Int
  wr : Int
  gd : Int
  vd : Int
  rm : Int

def may (x : Ln) : Bool := decide (x.st = 2) && decide (0 ≤ x.vd) && decide (x.vd < x.rm) && decide (x.rm ≤ 8192)

theorem may_iff (x : Ln) : may x = true ↔ x.st = 2 ∧ 0 ≤ x.vd ∧ x.vd < x.rm ∧ x.rm ≤ 8192 := by
  simp [may, and_assoc]

/-- What lines differ in: valid, wear, index. -/
abbrev K := Int × Int × Int

def cmpI (x y : Int) : Int := if x < y then -1 else if y < x then 1 else 0

def cmpK (a b : K) : Int := if cmpI a.1 b.1 ≠ 0 then cmpI a.1 b.1 else if cmpI a.2.1 b.2.1 ≠ 0 then cmpI a.2.1 b.2.1 else cmpI a.2.2 b.2.2

def lt (a b : K) : Bool := decide (cmpK a b < 0)

theorem cmpI_neg (x y : Int) : cmpI x y < 0 ↔ x < y := by unfold cmpI; split <;> (try split) <;> omega
theorem cmpI_zero (x y : Int) : cmpI x y = 0 ↔ x = y := by unfold cmpI; split <;> (try split) <;> omega

theorem lt_iff (a b : K) : lt a b = true ↔ a.1 < b.1 ∨ (a.1 = b.1 ∧ (a.2.1 < b.2.1 ∨ (a.2.1 = b.2.1 ∧ a.2.2 < b.2.2))) := by
  have z1 := cmpI_zero a.1 b.1
  have z2 := cmpI_zero a.2.1 b.2.1
  have n1 := cmpI_neg a.1 b.1
  have n2 := cmpI_neg a.2.1 b.2.1
  have n3 := cmpI_neg a.2.2 b.2.2
  unfold lt cmpK
  rw [decide_eq_true_eq]
  split
  · rename_i h
    omega
  · split <;> omega

theorem lt_irrefl (a : K) : lt a a = false := by
  rw [← Bool.not_eq_true, lt_iff]
  omega

theorem lt_trans (a b c : K) (h1 : lt a b = true) (h2 : lt b c = true) : lt a c = true := by
  rw [lt_iff] at *
  omega

theorem lt_ntrans (a b c : K) (h1 : lt a b = false) (h2 : lt b c = false) : lt a c = false := by
  rw [← Bool.not_eq_true, lt_iff] at *
  omega

theorem lt_asymm (a b : K) (h : lt a b = true) : lt b a = false := by
  rw [← Bool.not_eq_true, lt_iff]
  rw [lt_iff] at h
  omega

theorem lt_anti (a b : K) (h1 : lt a b = false) (h2 : lt b a = false) : a = b := by
  rw [← Bool.not_eq_true, lt_iff] at *
  obtain ⟨a1, a2, a3⟩ := a
  obtain ⟨b1, b2, b3⟩ := b
  simp only at h1 h2
  rw [show a1 = b1 by omega, show a2 = b2 by omega, show a3 = b3 by omega]

def key (x : Ln) (i : Nat) : K := (x.vd, x.wr, (i : Int))

/-- Of the first n lines the keys of those that may be collected. -/
def rks (f : Nat → Ln) : Nat → List K
  | 0 => []
  | n + 1 => rks f n ++ if may (f n) then [key (f n) n] else []

theorem rks_succ (f : Nat → Ln) (n : Nat) : rks f (n + 1) = rks f n ++ if may (f n) then [key (f n) n] else [] := rfl

theorem rks_len (f : Nat → Ln) (n : Nat) : (rks f n).length ≤ n := by
  induction n with
  | zero => simp [rks]
  | succ n ih =>
    rw [rks_succ, List.length_append]
    split <;> simp <;> omega

theorem rks_le (f : Nat → Ln) {t n : Nat} (h : t ≤ n) : (rks f t).length ≤ (rks f n).length := by
  induction n with
  | zero => rw [show t = 0 by omega]; omega
  | succ n ih =>
    rcases Nat.eq_or_lt_of_le h with rfl | h
    · omega
    · have := ih (by omega)
      rw [rks_succ, List.length_append]
      omega

theorem rks_mem (f : Nat → Ln) (n : Nat) (a : K) : a ∈ rks f n ↔ ∃ i, i < n ∧ may (f i) = true ∧ a = key (f i) i := by
  induction n with
  | zero => simp [rks]
  | succ n ih =>
    rw [rks_succ, List.mem_append, ih]
    constructor
    · rintro (⟨i, h1, h2, h3⟩ | h)
      · exact ⟨i, by omega, h2, h3⟩
      · split at h
        · rename_i hm
          simp at h
          exact ⟨n, by omega, hm, h⟩
        · simp at h
    · rintro ⟨i, h1, h2, h3⟩
      rcases Nat.lt_or_eq_of_le (Nat.le_of_lt_succ h1) with h | rfl
      · exact .inl ⟨i, h, h2, h3⟩
      · rw [if_pos h2]
        exact .inr (by simp [h3])

theorem rks_congr {f g : Nat → Ln} {n : Nat} (h : ∀ i, i < n → f i = g i) : rks f n = rks g n := by
  induction n with
  | zero => rfl
  | succ n ih => rw [rks_succ, rks_succ, ih (fun i hi => h i (by omega)), h n (by omega)]

theorem rks_nodup (f : Nat → Ln) (n : Nat) : (rks f n).Nodup := by
  induction n with
  | zero => simp [rks]
  | succ n ih =>
    rw [rks_succ, List.nodup_append]
    refine ⟨ih, by split <;> simp, fun a ha b hb hab => ?_⟩
    obtain ⟨i, hi, _, rfl⟩ := (rks_mem f n a).1 ha
    split at hb
    · simp at hb
      rw [hb] at hab
      unfold key at hab
      simp only [Prod.mk.injEq] at hab
      omega
    · simp at hb

/-- s is the keys r, sorted. -/
structure Srt (r s : List K) : Prop where
  perm : s.Perm r
  sort : s.Pairwise fun a b => lt b a = false

theorem Srt.unique {r s s' : List K} (h : Srt r s) (h' : Srt r s') : s = s' :=
  List.Perm.eq_of_pairwise (fun a b _ _ h1 h2 => lt_anti a b h2 h1) h.sort h'.sort (h.perm.trans h'.perm.symm)

theorem srt_exists (r : List K) : ∃ s, Srt r s := by
  refine ⟨r.mergeSort (fun a b => !lt b a), List.mergeSort_perm _ _, ?_⟩
  have h := List.pairwise_mergeSort (le := fun a b : K => !lt b a) (fun a b c h1 h2 => by
    simp only [Bool.not_eq_true'] at *
    exact lt_ntrans c b a h2 h1) (fun a b => by
    cases h : lt b a with
    | false => simp
    | true => simp [lt_asymm _ _ h]) r
  exact h.imp fun {a b} hab => by simpa using hab

/-- The keys of the first n lines that may be collected, the best first. -/
noncomputable def ord (f : Nat → Ln) (n : Nat) : List K := (srt_exists (rks f n)).choose
theorem ord_srt (f : Nat → Ln) (n : Nat) : Srt (rks f n) (ord f n) := (srt_exists (rks f n)).choose_spec
theorem ord_is {f : Nat → Ln} {n : Nat} {s : List K} (h : Srt (rks f n) s) : s = ord f n := h.unique (ord_srt f n)
theorem ord_len (f : Nat → Ln) (n : Nat) : (ord f n).length = (rks f n).length := (ord_srt f n).perm.length_eq
theorem ord_of {f g : Nat → Ln} {n m : Nat} (h : rks f n = rks g m) : ord f n = ord g m := by
  have := ord_srt f n
  rw [h] at this
  exact ord_is this
theorem ord_mem (f : Nat → Ln) (n : Nat) (a : K) : a ∈ ord f n ↔ ∃ i, i < n ∧ may (f i) = true ∧ a = key (f i) i := (ord_srt f n).perm.mem_iff.trans (rks_mem f n a)
theorem ord_nodup (f : Nat → Ln) (n : Nat) : (ord f n).Nodup := (ord_srt f n).perm.nodup_iff.2 (rks_nodup f n)

/-- The indices, the best one first. -/
noncomputable def idx (f : Nat → Ln) (n : Nat) : List Int := (ord f n).map (·.2.2)
theorem idx_len (f : Nat → Ln) (n : Nat) : (idx f n).length = (rks f n).length := by rw [idx, List.length_map, ord_len]

/-- In a sorted list of unlike keys each stands behind as many as are better. -/
theorem pos_of {s : List K} (hs : s.Pairwise fun a b => lt b a = false) (hn : s.Nodup) {p : Nat} {a : K} (h : s[p]? = some a) : s.countP (fun b => lt b a) = p := by
  obtain ⟨hp, ha⟩ := List.getElem?_eq_some_iff.1 h
  have e : s = s.take p ++ a :: s.drop (p + 1) := by
    rw [← ha, List.getElem_cons_drop, List.take_append_drop]
  have h1 : (s.take p).countP (fun b => lt b a) = p := by
    rw [List.countP_eq_length.2, List.length_take]
    · omega
    · intro b hb
      rw [e, List.pairwise_append] at hs
      have hba := hs.2.2 b hb a (by simp)
      rw [e, List.nodup_append] at hn
      have hne := hn.2.2 b hb a (by simp)
      cases hlt : lt b a with
      | true => rfl
      | false => exact absurd (lt_anti b a hlt hba) hne
  have h2 : (s.drop (p + 1)).countP (fun b => lt b a) = 0 := by
    rw [List.countP_eq_zero]
    intro b hb
    rw [e, List.pairwise_append, List.pairwise_cons] at hs
    rw [hs.2.1.1 b hb]
    simp
  rw [e, List.countP_append, List.countP_cons, h1, h2, lt_irrefl]
  simp

/-- How many of the first n lines that may be collected are better than the key a. -/
def cntb (f : Nat → Ln) (a : K) (n : Nat) : Nat := (rks f n).countP fun b => lt b a

theorem cntb_succ (f : Nat → Ln) (a : K) (n : Nat) : cntb f a (n + 1) = cntb f a n + if may (f n) = true ∧ lt (key (f n) n) a = true then 1 else 0 := by
  unfold cntb
  rw [rks_succ, List.countP_append]
  congr 1
  by_cases hm : may (f n) = true
  · rw [if_pos hm]
    by_cases hl : lt (key (f n) n) a = true
    · rw [if_pos ⟨hm, hl⟩]; simp [hl]
    · rw [if_neg (fun h => hl h.2)]; simp [hl]
  · rw [if_neg hm, if_neg (fun h => hm h.1)]
    rfl

theorem cntb_le (f : Nat → Ln) (a : K) (n : Nat) : cntb f a n ≤ n := Nat.le_trans List.countP_le_length (rks_len f n)

theorem cntb_ord (f : Nat → Ln) (a : K) (n : Nat) : cntb f a n = (ord f n).countP fun b => lt b a := ((ord_srt f n).perm.countP_eq _).symm

/-- Where a line's index stands. -/
theorem idx_at {f : Nat → Ln} {n i : Nat} (hi : i < n) (hm : may (f i) = true) : (idx f n)[cntb f (key (f i) i) n]? = some (i : Int) := by
  obtain ⟨p, hp⟩ := List.getElem?_of_mem ((ord_mem f n (key (f i) i)).2 ⟨i, hi, hm, rfl⟩)
  rw [cntb_ord, pos_of (ord_srt f n).sort (ord_nodup f n) hp, idx, List.getElem?_map, hp]
  rfl

theorem cntb_lt {f : Nat → Ln} {n i : Nat} (hi : i < n) (hm : may (f i) = true) : cntb f (key (f i) i) n < (rks f n).length := by
  have := (List.getElem?_eq_some_iff.1 (idx_at hi hm)).1
  rwa [idx_len] at this

/-- What stands at each line's place as it should is the order. -/
theorem idx_is {f : Nat → Ln} {n : Nat} {o : List Int} (hl : o.length = (rks f n).length) (h : ∀ i, i < n → may (f i) = true → o[cntb f (key (f i) i) n]? = some (i : Int)) : o = idx f n := by
  refine List.ext_getElem? fun p => ?_
  by_cases hp : p < (rks f n).length
  · have hp2 : p < (ord f n).length := by rw [ord_len]; exact hp
    have hq : (ord f n)[p]? = some (ord f n)[p] := List.getElem?_eq_getElem hp2
    obtain ⟨i, hi, hm, hk⟩ := (ord_mem f n _).1 (List.mem_of_getElem? hq)
    rw [hk] at hq
    have hc := pos_of (ord_srt f n).sort (ord_nodup f n) hq
    have h1 := h i hi hm
    have h2 := idx_at hi hm
    rw [cntb_ord, hc] at h1 h2
    rw [h1, h2]
  · rw [List.getElem?_eq_none (by omega), List.getElem?_eq_none (by rw [idx_len]; omega)]

/-- The first of them, and whether there is one. -/
noncomputable def pick (f : Nat → Ln) (n : Nat) : Int × Bool := match (ord f n) with | [] => (0, false) | a :: _ => (a.2.2, true)

theorem pick_none {f : Nat → Ln} {n : Nat} (h : rks f n = []) : pick f n = (0, false) ∧ idx f n = [] := by
  have : ord f n = [] := List.length_eq_zero_iff.1 (by rw [ord_len, h]; rfl)
  exact ⟨by simp [pick, this], by simp [idx, this]⟩

/-- The best one. -/
theorem best_of {f : Nat → Ln} {n : Nat} {a : K} (ha : a ∈ rks f n) (hb : ∀ b ∈ rks f n, lt b a = false) : ∃ s, ord f n = a :: s := by
  cases ho : ord f n with
  | nil =>
    have := ord_len f n
    rw [ho] at this
    rw [List.length_eq_zero_iff.1 this.symm] at ha
    exact absurd ha (by simp)
  | cons b s =>
    have hS := (ord_srt f n).sort
    have hp := (ord_srt f n).perm
    rw [ho] at hS hp
    rw [List.pairwise_cons] at hS
    have hba := hb b (hp.mem_iff.1 (by simp))
    rcases List.mem_cons.1 (hp.mem_iff.2 ha) with rfl | has
    · exact ⟨s, rfl⟩
    · exact ⟨s, by rw [lt_anti b a hba (hS.1 a has)]⟩

theorem pick_best {f : Nat → Ln} {n : Nat} {a : K} (ha : a ∈ rks f n) (hb : ∀ b ∈ rks f n, lt b a = false) : pick f n = (a.2.2, true) := by
  obtain ⟨s, hs⟩ := best_of ha hb
  simp [pick, hs]

/-- The two cases of a pick. -/
theorem pick_cases (f : Nat → Ln) (n : Nat) : (rks f n = [] ∧ pick f n = (0, false) ∧ idx f n = [] ∧ ∀ i, i < n → may (f i) = false) ∨
    ∃ i : Nat, i < n ∧ may (f i) = true ∧ pick f n = ((i : Int), true) ∧ (idx f n)[0]? = some (i : Int) ∧ ∀ j, j < n → may (f j) = true → lt (key (f j) j) (key (f i) i) = false := by
  cases ho : ord f n with
  | nil =>
    have hr : rks f n = [] := List.length_eq_zero_iff.1 (by rw [← ord_len, ho]; rfl)
    refine .inl ⟨hr, (pick_none hr).1, (pick_none hr).2, fun i hi => ?_⟩
    cases hm : may (f i) with
    | false => rfl
    | true =>
      have := (rks_mem f n _).2 ⟨i, hi, hm, rfl⟩
      rw [hr] at this
      exact absurd this (by simp)
  | cons a s =>
    obtain ⟨i, hi, hm, rfl⟩ := (ord_mem f n a).1 (by rw [ho]; simp)
    refine .inr ⟨i, hi, hm, by simp [pick, ho, key], by simp [idx, ho, key], fun j hj hmj => ?_⟩
    have hS := (ord_srt f n).sort
    rw [ho, List.pairwise_cons] at hS
    rcases List.mem_cons.1 (show key (f j) j ∈ key (f i) i :: s by rw [← ho]; exact (ord_mem f n _).2 ⟨j, hj, hmj, rfl⟩) with h | h
    · rw [h]; exact lt_irrefl _
    · exact hS.1 _ h

/-- What a line gives back. -/
def gain (f : Nat → Ln) (n : Nat) (i : Int) : Int := if 0 ≤ i ∧ i < n then (if may (f i.toNat) then (f i.toNat).rm - (f i.toNat).vd else 0) else 0

theorem gain_in {f : Nat → Ln} {n i : Nat} (hi : i < n) : gain f n (i : Int) = if may (f i) then (f i).rm - (f i).vd else 0 := by
  unfold gain
  rw [if_pos (by omega), Int.toNat_natCast]

theorem gain_pos {f : Nat → Ln} {n i : Nat} (hi : i < n) (hm : may (f i) = true) : 1 ≤ gain f n (i : Int) := by
  rw [gain_in hi, if_pos hm]
  have := (may_iff _).1 hm
  omega

theorem gain_no {f : Nat → Ln} {n i : Nat} (hi : i < n) (hm : may (f i) = false) : gain f n (i : Int) = 0 := by
  rw [gain_in hi, hm]
  rfl

/-- Lines in another order have the same pairs of valid and wear. -/
def pr (a : K) : Int × Int := (a.1, a.2.1)

theorem rks_pr (f : Nat → Ln) (n : Nat) : (rks f n).map pr = (((List.range n).map f).filter may).map fun x => (x.vd, x.wr) := by
  induction n with
  | zero => rfl
  | succ n ih =>
    rw [rks_succ, List.range_succ, List.map_append, List.map_append, List.filter_append, List.map_append, ih]
    congr 1
    by_cases hm : may (f n) = true
    · rw [if_pos hm]; simp [hm, pr, key]
    · rw [if_neg hm]; simp [hm]

theorem turned {f g : Nat → Ln} {n : Nat} (h : ((List.range n).map g).Perm ((List.range n).map f)) : ((rks g n).map pr).Perm ((rks f n).map pr) := by
  rw [rks_pr, rks_pr]
  exact (h.filter _).map _

/-- The best of lines in another order is as good. -/
theorem turned_best {f g : Nat → Ln} {n : Nat} (h : ((List.range n).map g).Perm ((List.range n).map f)) :
    (rks g n).length = (rks f n).length ∧ ((pick f n = (0, false) ∧ pick g n = (0, false)) ∨ ∃ i j : Nat, i < n ∧ j < n ∧ pick f n = ((i : Int), true) ∧ pick g n = ((j : Int), true) ∧ (f i).vd = (g j).vd ∧ (f i).wr = (g j).wr) := by
  have hp := turned h
  have hl : (rks g n).length = (rks f n).length := by simpa using hp.length_eq
  refine ⟨hl, ?_⟩
  rcases pick_cases f n with ⟨h1, h2, _, _⟩ | ⟨i, hi, hm, h2, _, h4⟩
  · have : rks g n = [] := List.length_eq_zero_iff.1 (by rw [hl, h1]; rfl)
    exact .inl ⟨h2, (pick_none this).1⟩
  · rcases pick_cases g n with ⟨h1, _, _, _⟩ | ⟨j, hj, hmj, h2', _, h4'⟩
    · have := (rks_mem f n _).2 ⟨i, hi, hm, rfl⟩
      rw [List.length_eq_zero_iff.1 (by rw [← hl, h1]; rfl : (rks f n).length = 0)] at this
      exact absurd this (by simp)
    · have a1 : pr (key (g j) j) ∈ (rks f n).map pr := hp.mem_iff.1 (List.mem_map_of_mem ((rks_mem g n _).2 ⟨j, hj, hmj, rfl⟩))
      have a2 : pr (key (f i) i) ∈ (rks g n).map pr := hp.mem_iff.2 (List.mem_map_of_mem ((rks_mem f n _).2 ⟨i, hi, hm, rfl⟩))
      obtain ⟨b, hb, hbe⟩ := List.mem_map.1 a1
      obtain ⟨c, hc, hce⟩ := List.mem_map.1 a2
      obtain ⟨i', hi', hm', rfl⟩ := (rks_mem f n b).1 hb
      obtain ⟨j', hj', hmj', rfl⟩ := (rks_mem g n c).1 hc
      have q1 := h4 i' hi' hm'
      have q2 := h4' j' hj' hmj'
      rw [← Bool.not_eq_true, lt_iff] at q1 q2
      simp only [pr, key, Prod.mk.injEq] at hbe hce q1 q2
      exact .inr ⟨i, j, hi, hj, h2, h2', by omega, by omega⟩

/-- A line more that may not be collected. -/
theorem more_none {f g : Nat → Ln} {n : Nat} (h : ∀ i, i < n → g i = f i) (hm : may (g n) = false) : rks g (n + 1) = rks f n := by
  rw [rks_succ, hm, rks_congr h]
  simp

end Go.Proofs.Ytodaigdlfpinhaa.Victim
