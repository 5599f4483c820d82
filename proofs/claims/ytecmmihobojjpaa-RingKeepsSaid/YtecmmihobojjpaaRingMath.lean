/-
  Plain mathematics of a ring of slots: which ones are as asked, what is marked, where the tail stands. Nothing of the program's code is named here.
-/
import Derived.Test.YtecmmihobojjpaaBytes
namespace Go.Proofs.Ytecmmihobojjpaa.Ring

/-- The places in a list that are as asked. -/
def sel {α : Type} (p : α → Bool) : List α → List Nat
  | [] => []
  | x :: l => (if p x then [0] else []) ++ (sel p l).map (· + 1)

section
variable {α : Type} (p : α → Bool)

theorem sel_append (l m : List α) : sel p (l ++ m) = sel p l ++ (sel p m).map (· + l.length) := by
  induction l with
  | nil => simp [sel]
  | cons x l ih =>
    simp only [List.cons_append, sel, ih, List.map_append, List.map_map, List.append_assoc, List.length_cons]
    congr 2

theorem sel_snoc (l : List α) (x : α) : sel p (l ++ [x]) = sel p l ++ if p x then [l.length] else [] := by
  rw [sel_append]
  by_cases h : p x <;> simp [sel, h]

theorem sel_lt (l : List α) : ∀ i ∈ sel p l, i < l.length := by
  induction l with
  | nil => simp [sel]
  | cons x l ih =>
    intro i hi
    simp only [sel, List.mem_append, List.mem_map] at hi
    rcases hi with hi | ⟨j, hj, rfl⟩
    · split at hi <;> simp at hi
      subst hi
      simp
    · have := ih j hj
      simp
      omega

theorem sel_is (l : List α) : ∀ i ∈ sel p l, ∃ x, l[i]? = some x ∧ p x = true := by
  induction l with
  | nil => simp [sel]
  | cons x l ih =>
    intro i hi
    simp only [sel, List.mem_append, List.mem_map] at hi
    rcases hi with hi | ⟨j, hj, rfl⟩
    · split at hi <;> simp at hi
      subst hi
      exact ⟨x, rfl, by assumption⟩
    · obtain ⟨y, h1, h2⟩ := ih j hj
      exact ⟨y, by simpa using h1, h2⟩

theorem sel_mem (l : List α) (i : Nat) (x : α) (h : l[i]? = some x) (hp : p x = true) : i ∈ sel p l := by
  induction l generalizing i with
  | nil => simp at h
  | cons y l ih =>
    simp only [sel, List.mem_append, List.mem_map]
    rcases i with _ | i
    · simp at h
      subst h
      exact .inl (by simp [hp])
    · exact .inr ⟨i, ih i (by simpa using h), rfl⟩

theorem sel_sorted (l : List α) : (sel p l).Pairwise (· < ·) := by
  induction l with
  | nil => simp [sel]
  | cons x l ih =>
    simp only [sel]
    rw [List.pairwise_append]
    refine ⟨by split <;> simp, List.pairwise_map.2 (ih.imp (fun h => by omega)), fun a ha b hb => ?_⟩
    split at ha <;> simp at ha
    obtain ⟨j, _, rfl⟩ := List.mem_map.1 hb
    omega

theorem sel_len (l : List α) : (sel p l).length ≤ l.length := by
  induction l with
  | nil => simp [sel]
  | cons x l ih =>
    simp only [sel, List.length_append, List.length_map, List.length_cons]
    split <;> simp <;> omega

theorem sel_none (l : List α) (h : ∀ x ∈ l, p x = false) : sel p l = [] := by
  induction l with
  | nil => rfl
  | cons x l ih =>
    rw [sel, ih (fun y hy => h y (List.mem_cons_of_mem _ hy)), h x (by simp)]
    simp

/-- Where what stands ahead is not as asked. -/
theorem sel_drop (l : List α) (t : Nat) (ht : t ≤ l.length) (h : ∀ x ∈ l.take t, p x = false) : sel p l = (sel p (l.drop t)).map (· + t) := by
  conv => lhs; rw [← List.take_append_drop t l]
  rw [sel_append, sel_none p _ h, List.length_take, Nat.min_eq_left ht, List.nil_append]

theorem sel_map {β : Type} (f : β → α) (l : List β) : sel p (l.map f) = sel (fun x => p (f x)) l := by
  induction l with
  | nil => rfl
  | cons x l ih => simp [sel, ih]

theorem sel_congr {q : α → Bool} (l : List α) (h : ∀ x ∈ l, p x = q x) : sel p l = sel q l := by
  induction l with
  | nil => rfl
  | cons x l ih => rw [sel, sel, ih (fun y hy => h y (List.mem_cons_of_mem _ hy)), h x (by simp)]

theorem take_snoc {β : Type} (l : List β) (k : Nat) (x : β) (h : l[k]? = some x) : l.take (k + 1) = l.take k ++ [x] := by
  obtain ⟨hl, rfl⟩ := List.getElem?_eq_some_iff.1 h
  rw [List.take_succ_eq_append_getElem hl]

/-- One more looked at. -/
theorem sel_take (l : List α) (k : Nat) (x : α) (h : l[k]? = some x) : sel p (l.take (k + 1)) = sel p (l.take k) ++ if p x then [k] else [] := by
  have hl := (List.getElem?_eq_some_iff.1 h).1
  rw [take_snoc l k x h, sel_snoc, List.length_take, Nat.min_eq_left (by omega)]

/-- At most so many of them. -/
theorem sel_first (l : List α) (n k : Nat) (h : n ≤ (sel p (l.take k)).length) : (sel p l).take n = (sel p (l.take k)).take n := by
  conv => lhs; rw [← List.take_append_drop k l]
  rw [sel_append, List.take_append_of_le_length h]

theorem sel_at (l : List α) (k i : Nat) (h : (sel p l)[k]? = some i) : i < l.length ∧ ∃ x, l[i]? = some x ∧ p x = true := by
  have hm : i ∈ sel p l := List.mem_of_getElem? h
  exact ⟨sel_lt p l i hm, sel_is p l i hm⟩
end

/-- Marks laid at places. -/
def mark {α : Type} (f : α → α) (ps : List Nat) (l : List α) : List α := ps.foldl (fun l i => l.modify i f) l

section
variable {α : Type} (f : α → α)
theorem mark_nil (l : List α) : mark f [] l = l := rfl
theorem mark_snoc (ps : List Nat) (i : Nat) (l : List α) : mark f (ps ++ [i]) l = (mark f ps l).modify i f := by simp [mark]
theorem mark_cons (i : Nat) (ps : List Nat) (l : List α) : mark f (i :: ps) l = mark f ps (l.modify i f) := rfl
theorem mark_len (ps : List Nat) (l : List α) : (mark f ps l).length = l.length := by
  induction ps generalizing l with
  | nil => rfl
  | cons i ps ih => rw [mark_cons, ih, List.length_modify]
theorem mark_out (ps : List Nat) (l : List α) (j : Nat) (h : j ∉ ps) : (mark f ps l)[j]? = l[j]? := by
  induction ps generalizing l with
  | nil => rfl
  | cons i ps ih =>
    have hne : ¬ i = j := fun e => h (by rw [e]; simp)
    rw [mark_cons, ih _ (fun h' => h (List.mem_cons_of_mem _ h')), List.getElem?_modify]
    simp [hne]
theorem mark_shift (t : Nat) (ps : List Nat) (l : List α) : (mark f (ps.map (· + t)) l).drop t = mark f ps (l.drop t) := by
  induction ps generalizing l with
  | nil => rfl
  | cons i ps ih =>
    rw [List.map_cons, mark_cons, mark_cons, ih]
    congr 1
    apply List.ext_getElem?
    intro j
    rw [List.getElem?_drop, List.getElem?_modify, List.getElem?_modify, List.getElem?_drop]
    by_cases e : i = j
    · simp only [if_pos (show i + t = t + j by omega), if_pos e]
    · simp only [if_neg (show ¬ i + t = t + j by omega), if_neg e]
theorem mark_take (t : Nat) (ps : List Nat) (l : List α) : (mark f (ps.map (· + t)) l).take t = l.take t := by
  apply List.ext_getElem?
  intro j
  rw [List.getElem?_take, List.getElem?_take]
  split
  · rw [mark_out]
    intro h
    obtain ⟨a, _, e⟩ := List.mem_map.1 h
    omega
  · rfl
theorem mark_map {β : Type} (g : α → β) (f' : β → β) (h : ∀ x, g (f x) = f' (g x)) (ps : List Nat) (l : List α) : (mark f ps l).map g = mark f' ps (l.map g) := by
  induction ps generalizing l with
  | nil => rfl
  | cons i ps ih =>
    rw [mark_cons, mark_cons, ih]
    congr 1
    apply List.ext_getElem?
    intro j
    rw [List.getElem?_map, List.getElem?_modify, List.getElem?_modify, List.getElem?_map]
    by_cases e : i = j
    · simp only [e, if_true]
      cases l[j]? with
      | none => rfl
      | some x => simp [h]
    · simp [e]
end

/-- A slot: its kind, sector, stamp, bytes, and where it was. -/
structure Slot where
  k : Int
  l : Int
  s : Int
  d : List UInt8
  f : Int

/-- All slots that were ever put, and what each is: 0 it waits, 1 it is out, 2 it is done. -/
abbrev All := List (Slot × Int)

def out (q : Int) (x : Slot × Int) : Slot × Int := (x.1, q)
def isQ (q : Int) (x : Slot × Int) : Bool := decide (x.2 = q)
def mine (lba : Int) (x : Slot × Int) : Bool := decide (x.1.l = lba) && decide (x.1.f < 0)

/-- The tail: the first that is not done. -/
def tl (l : All) : Nat := (l.takeWhile (isQ 2)).length

theorem tl_le (l : All) : tl l ≤ l.length := (List.takeWhile_sublist _).length_le

theorem tl_done (l : All) : ∀ x ∈ l.take (tl l), x.2 = 2 := by
  intro x hx
  have e : l.take (tl l) = l.takeWhile (isQ 2) := by
    unfold tl
    exact (List.prefix_iff_eq_take.1 (List.takeWhile_prefix _)).symm
  rw [e] at hx
  have := List.all_takeWhile (p := isQ 2) (l := l)
  rw [List.all_eq_true] at this
  simpa [isQ] using this x hx

theorem tl_not (l : All) (x : Slot × Int) (h : l[tl l]? = some x) : x.2 ≠ 2 := by
  induction l with
  | nil => simp at h
  | cons y l ih =>
    by_cases hy : isQ 2 y = true
    · rw [show tl (y :: l) = tl l + 1 by simp [tl, hy]] at h
      exact ih (by simpa using h)
    · rw [show tl (y :: l) = 0 by simp [tl, hy]] at h
      simp at h
      subst h
      simpa [isQ] using hy

/-- What is so is the tail. -/
theorem tl_is (l : All) (t : Nat) (ht : t ≤ l.length) (h1 : ∀ x ∈ l.take t, x.2 = 2) (h2 : ∀ x, l[t]? = some x → x.2 ≠ 2) : tl l = t := by
  induction l generalizing t with
  | nil => simp at ht; subst ht; rfl
  | cons y l ih =>
    rcases t with _ | t
    · have := h2 y rfl
      simp [tl, isQ, this]
    · have hy : isQ 2 y = true := by simpa [isQ] using h1 y (by simp)
      rw [show tl (y :: l) = tl l + 1 by simp [tl, hy]]
      rw [ih t (by simpa using ht) (fun x hx => h1 x (by simp [hx])) (fun x hx => h2 x (by simpa using hx))]

end Go.Proofs.Ytecmmihobojjpaa.Ring
