/-
  Queues in plain words: a job, the jobs of each channel, the document's list of all jobs that were ever put. Nothing of the program's code is named here.
-/
namespace Go.Proofs.Ytkpneckgpolaoaa.Queue

/-- A job. -/
structure Jb where
  k : Int
  l : Int
  u : Int
  p : Int
  d : List Int

def zero : Jb := ⟨0, 0, 0, 0, []⟩

/-- The jobs of each channel. -/
abbrev Js := Nat → List Jb

def upd (q : Js) (c : Nat) (l : List Jb) : Js := fun i => if i = c then l else q i

theorem upd_same (q : Js) (c : Nat) (l : List Jb) : upd q c l c = l := if_pos rfl
theorem upd_other (q : Js) {c d : Nat} (h : d ≠ c) (l : List Jb) : upd q c l d = q d := if_neg h

/-- The jobs of channel c, if there is such a one. -/
def jobs (ch : Int) (q : Js) (c : Int) : List Jb := if 0 ≤ c ∧ c < ch then q c.toNat else []
def putQ (ch : Int) (q : Js) (c : Int) (j : Jb) : Js := if 0 ≤ c ∧ c < ch then upd q c.toNat (q c.toNat ++ [j]) else q
def putE (ch c : Int) : Int := if 0 ≤ c ∧ c < ch then 0 else 2
def popQ (ch : Int) (q : Js) (c : Int) : Js := if 0 ≤ c ∧ c < ch then upd q c.toNat ((q c.toNat).drop 1) else q
def head (l : List Jb) : Jb := l.headD zero

def cnt (z : Int) (l : List Jb) : Nat := (l.filter (fun j => j.l == z)).length
def busy (q : Js) (z : Int) : Nat := cnt z (q 0) + cnt z (q 1) + cnt z (q 2) + cnt z (q 3)

theorem cnt_nil (z : Int) : cnt z [] = 0 := rfl
theorem cnt_append (z : Int) (a b : List Jb) : cnt z (a ++ b) = cnt z a + cnt z b := by simp [cnt]
theorem cnt_one (z : Int) (j : Jb) : cnt z [j] = if j.l = z then 1 else 0 := by
  by_cases h : j.l = z
  · simp [cnt, h]
  · have : (j.l == z) = false := by simpa using h
    simp [cnt, h, this]
theorem cnt_cons (z : Int) (j : Jb) (l : List Jb) : cnt z (j :: l) = (if j.l = z then 1 else 0) + cnt z l := by
  have h := cnt_append z [j] l
  rw [cnt_one] at h
  exact h
theorem cnt_le (z : Int) (l : List Jb) : cnt z l ≤ l.length := List.length_filter_le _ _

theorem busy_upd (q : Js) (z : Int) {c : Nat} (hc : c < 4) (l : List Jb) : busy (upd q c l) z + cnt z (q c) = busy q z + cnt z l := by
  have : c = 0 ∨ c = 1 ∨ c = 2 ∨ c = 3 := by omega
  rcases this with rfl | rfl | rfl | rfl <;> simp [busy, upd] <;> omega

theorem busy_put (q : Js) (z : Int) {c : Nat} (hc : c < 4) (j : Jb) : busy (upd q c (q c ++ [j])) z = busy q z + (if j.l = z then 1 else 0) := by
  have h := busy_upd q z hc (q c ++ [j])
  rw [cnt_append, cnt_one] at h
  omega

theorem busy_pop (q : Js) (z : Int) {c : Nat} (hc : c < 4) {j : Jb} {l : List Jb} (h0 : q c = j :: l) : busy (upd q c l) z + (if j.l = z then 1 else 0) = busy q z := by
  have h := busy_upd q z hc l
  rw [h0, cnt_cons] at h
  omega

/-- A job that was ever put: into which channel; whether it is gone. -/
structure Ld where
  c : Int
  j : Jb
  gone : Bool

def here (c : Int) (x : Ld) : Bool := x.c == c && !x.gone
def of (all : List Ld) (c : Int) : List Jb := (all.filter (here c)).map Ld.j

theorem of_nil (c : Int) : of [] c = [] := rfl

theorem of_snoc (all : List Ld) (c d : Int) (j : Jb) : of (all ++ [⟨c, j, false⟩]) d = if d = c then of all d ++ [j] else of all d := by
  unfold of
  rw [List.filter_append, List.map_append]
  by_cases h : d = c
  · subst h
    simp [here]
  · have : (c == d) = false := by simpa using fun e => h e.symm
    simp [here, this, h]

theorem of_none {all : List Ld} {c : Int} (h : ∀ x ∈ all, here c x = false) : of all c = [] := by
  unfold of
  rw [List.filter_eq_nil_iff.2 (fun x hx => by rw [h x hx]; simp)]
  rfl

/-- The first one of a channel that is not gone is the i-th, x. -/
structure Fst (all : List Ld) (c : Int) (i : Nat) (x : Ld) : Prop where
  at_ : all[i]? = some x
  is : here c x = true
  no : ∀ k < i, ∀ y, all[k]? = some y → here c y = false

theorem Fst.split {all : List Ld} {c : Int} {i : Nat} {x : Ld} (h : Fst all c i x) : all = all.take i ++ x :: all.drop (i + 1) ∧ of (all.take i) c = [] := by
  obtain ⟨hl, hx⟩ := List.getElem?_eq_some_iff.1 h.at_
  refine ⟨?_, of_none fun y hy => ?_⟩
  · conv => lhs; rw [← List.take_append_drop i all]
    rw [List.drop_eq_getElem_cons hl, hx]
  · obtain ⟨k, hk⟩ := List.getElem?_of_mem hy
    rw [List.getElem?_take] at hk
    split at hk
    · exact h.no k (by assumption) y hk
    · cases hk

theorem of_append (a b : List Ld) (c : Int) : of (a ++ b) c = of a c ++ of b c := by simp [of]

theorem of_cons (x : Ld) (a : List Ld) (c : Int) : of (x :: a) c = if here c x = true then x.j :: of a c else of a c := by
  unfold of
  rw [List.filter_cons]
  split <;> simp

theorem Fst.head {all : List Ld} {c : Int} {i : Nat} {x : Ld} (h : Fst all c i x) : of all c = x.j :: of (all.drop (i + 1)) c := by
  obtain ⟨h1, h2⟩ := h.split
  conv => lhs; rw [h1]
  rw [of_append, h2, of_cons, if_pos h.is, List.nil_append]

def Ld.off (x : Ld) : Ld := { x with gone := true }

/-- It goes. -/
theorem Fst.off {all : List Ld} {c : Int} {i : Nat} {x : Ld} (h : Fst all c i x) : (of (all.modify i Ld.off) c = (of all c).drop 1) ∧ ∀ d, d ≠ c → of (all.modify i Ld.off) d = of all d := by
  obtain ⟨h1, h2⟩ := h.split
  obtain ⟨hl, hx⟩ := List.getElem?_eq_some_iff.1 h.at_
  have hm : all.modify i Ld.off = all.take i ++ x.off :: all.drop (i + 1) := by
    rw [List.modify_eq_take_cons_drop hl, hx]
  have hxc : x.c = c := by have := h.is; simp [here] at this; exact this.1
  refine ⟨?_, fun d hd => ?_⟩
  · rw [h.head, hm, of_append, h2, of_cons, if_neg (by simp [here, Ld.off]), List.nil_append]
    rfl
  · conv => rhs; rw [h1]
    rw [hm, of_append, of_append, of_cons, of_cons, if_neg (by simp [here, Ld.off]), if_neg (by simp [here, hxc]; intro e; exact absurd e.symm hd)]

def left (z : Int) (x : Ld) : Bool := x.j.l == z && !x.gone
def many (all : List Ld) (z : Int) : Nat := (all.filter (left z)).length

/-- The document counts what the channels have. -/
theorem many_eq (all : List Ld) (z : Int) (h : ∀ x ∈ all, 0 ≤ x.c ∧ x.c < 4) : many all z = cnt z (of all 0) + cnt z (of all 1) + cnt z (of all 2) + cnt z (of all 3) := by
  induction all with
  | nil => rfl
  | cons x l ih =>
    have ih := ih fun y hy => h y (by simp [hy])
    have hx := h x (by simp)
    have e1 : many (x :: l) z = (if left z x = true then 1 else 0) + many l z := by
      unfold many
      rw [List.filter_cons]
      split
      · simp; omega
      · simp
    rw [e1, ih, of_cons, of_cons, of_cons, of_cons]
    obtain ⟨c, j, g⟩ := x
    have : c = 0 ∨ c = 1 ∨ c = 2 ∨ c = 3 := by simp at hx; omega
    cases g
    · by_cases hz : j.l = z
      · rcases this with rfl | rfl | rfl | rfl <;> simp [left, here, cnt_cons, hz] <;> omega
      · rcases this with rfl | rfl | rfl | rfl <;> simp [left, here, cnt_cons, hz]
    · simp [left, here]

end Go.Proofs.Ytkpneckgpolaoaa.Queue
