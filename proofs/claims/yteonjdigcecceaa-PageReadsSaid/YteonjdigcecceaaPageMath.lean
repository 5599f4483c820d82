/-
  The mathematics of layer 15: what a slot's sector is, which pieces make a page, what is read of one. No memory here.
-/
import Derived.Test.YteonjdigcecceaaOobMath
import Derived.Test.YteonjdigcecceaaMarkMath
namespace Go.Proofs.Yteonjdigcecceaa.Page

/-- A slot. -/
structure Sl where
  k : Int
  l : Int
  s : Int
  d : List UInt8
  f : Int

/-- A sector of a page, and its metadata. -/
structure Pc where
  k : Int
  l : Int
  s : Int
  d : List UInt8

def zeros : List UInt8 := List.replicate 16 0
theorem zeros_len : zeros.length = 16 := rfl
def pad : Pc := ⟨3, 0, 0, zeros⟩

def Pc.Ok (p : Pc) : Prop := Oob.Ok p.k p.l p.s ∧ p.d.length = 16
instance (p : Pc) : Decidable p.Ok := by unfold Pc.Ok; infer_instance
def Pc.code (p : Pc) : List UInt8 := Oob.full p.k p.l p.s p.d
def Pc.two (p : Pc) : List UInt8 × List UInt8 := (p.d, p.code)

theorem Pc.code_len (p : Pc) : p.code.length = 17 := Oob.full_len ..

theorem pad_ok : pad.Ok := ⟨by unfold Oob.Ok pad; simp, rfl⟩

/-- The bytes of a slot. -/
def sect (x : Sl) : List UInt8 := if x.k = 1 then x.d else if x.k = 2 then zeros else []
def Sl.pc (x : Sl) : Pc := ⟨x.k, x.l, x.s, sect x⟩

theorem sect_1 {x : Sl} (h : x.k = 1) : sect x = x.d := if_pos h
theorem sect_2 {x : Sl} (h : x.k = 2) : sect x = zeros := by unfold sect; rw [if_neg (by omega), if_pos h]
theorem sect_0 {x : Sl} (h1 : x.k ≠ 1) (h2 : x.k ≠ 2) : sect x = [] := by unfold sect; rw [if_neg h1, if_neg h2]

theorem Sl.kind {x : Sl} (h : x.pc.Ok) : x.k = 1 ∨ x.k = 2 := by
  by_cases h1 : x.k = 1
  · exact .inl h1
  · by_cases h2 : x.k = 2
    · exact .inr h2
    · have := h.2
      rw [show x.pc.d = sect x from rfl, sect_0 h1 h2] at this
      simp at this

/-- So many pieces, pads behind. -/
def fill (n : Nat) (ps : List Pc) : List Pc := ps ++ List.replicate (n - ps.length) pad

theorem fill_len {n : Nat} {ps : List Pc} (h : ps.length ≤ n) : (fill n ps).length = n := by unfold fill; simp; omega
theorem fill_self {n : Nat} {ps : List Pc} (h : n ≤ ps.length) : fill n ps = ps := by unfold fill; rw [show n - ps.length = 0 by omega]; simp
theorem fill_more {n : Nat} {ps : List Pc} (h : ps.length < n) : fill n (ps ++ [pad]) = fill n ps := by
  unfold fill
  rw [List.append_assoc, List.singleton_append, ← List.replicate_succ, List.length_append, List.length_singleton]
  congr 2
  omega
theorem fill_ok {n : Nat} {ps : List Pc} : (∀ p ∈ fill n ps, p.Ok) ↔ ∀ p ∈ ps, p.Ok := by
  constructor
  · exact fun h p hp => h p (List.mem_append_left _ hp)
  · intro h p hp
    rcases List.mem_append.1 hp with hp | hp
    · exact h p hp
    · rw [List.eq_of_mem_replicate hp]
      exact pad_ok

/-- May there be a page of so many sectors, with so many pieces? -/
def fits (n : Int) (m : Nat) : Prop := 1 ≤ m ∧ (m : Int) ≤ n ∧ n ≤ 4
instance (n : Int) (m : Nat) : Decidable (fits n m) := by unfold fits; infer_instance

/-- What is told of a sector. -/
structure Fnd where
  a : Nat
  k : Int
  l : Int
  s : Int
  d : List UInt8
deriving DecidableEq

def tell (i : Nat) (d o : List UInt8) : List Fnd :=
  if (Oob.unp o d).2.2.2 = 0 ∧ (Oob.unp o d).1 ≠ 3 then [⟨i, (Oob.unp o d).1, (Oob.unp o d).2.1, (Oob.unp o d).2.2.1, d⟩] else []

theorem tell_yes {i : Nat} {d o : List UInt8} {k l s : Int} (h : Oob.unp o d = (k, l, s, 0)) (hk : k ≠ 3) : tell i d o = [⟨i, k, l, s, d⟩] := by
  unfold tell
  rw [h, if_pos ⟨rfl, hk⟩]
theorem tell_no {i : Nat} {d o : List UInt8} {k l s z : Int} (h : Oob.unp o d = (k, l, s, z)) (hz : z ≠ 0 ∨ k = 3) : tell i d o = [] := by
  unfold tell
  rw [h, if_neg (fun h => hz.elim (fun h2 => h2 h.1) (fun h2 => h.2 h2))]

theorem unp_len {o d : List UInt8} {k l s : Int} (h : Oob.unp o d = (k, l, s, 0)) : d.length = 16 ∧ Oob.Ok k l s ∧ o = Oob.full k l s d := by
  rcases Oob.unp_cases o d with h2 | h2 | ⟨k', l', s', h2, h3, h4, h5⟩
  · rw [h2] at h
    simp at h
  · rw [h2] at h
    simp at h
  · rw [h2] at h
    injection h with e1 h
    injection h with e2 h
    injection h with e3 h
    subst e1 e2 e3
    exact ⟨h4, h3, h5.symm⟩

theorem tell_len {i : Nat} {d o : List UInt8} : (tell i d o).length ≤ 1 := by
  unfold tell
  split <;> simp

/-- What is told of the first so many sectors. -/
def read (D O : List (List UInt8)) : Nat → List Fnd
  | 0 => []
  | j + 1 => read D O j ++ tell j (D.getD j []) (O.getD j [])

theorem read_len (D O : List (List UInt8)) (j : Nat) : (read D O j).length ≤ j := by
  induction j with
  | zero => simp [read]
  | succ j ih =>
    have := tell_len (i := j) (d := D.getD j []) (o := O.getD j [])
    simp only [read, List.length_append]
    omega

theorem read_succ {D O : List (List UInt8)} {j : Nat} {d o : List UInt8} (h1 : D[j]? = some d) (h2 : O[j]? = some o) : read D O (j + 1) = read D O j ++ tell j d o := by
  simp [read, List.getD, h1, h2]

/-- All that a page tells. -/
def all (D O : List (List UInt8)) : List Fnd := read D O (min D.length O.length)

/-- What a piece tells at a place. -/
def Pc.fd (i : Nat) (p : Pc) : List Fnd := if p.k = 3 then [] else [⟨i, p.k, p.l, p.s, p.d⟩]

theorem tell_pc {p : Pc} (h : p.Ok) (i : Nat) : tell i p.d p.code = p.fd i := by
  have h2 := Oob.unp_full h.1 h.2
  unfold Pc.fd Pc.code
  by_cases hk : p.k = 3
  · rw [if_pos hk, tell_no h2 (.inr hk)]
  · rw [if_neg hk, tell_yes h2 hk]

theorem read_seg (D O : List (List UInt8)) (f : Nat → Fnd) (a t : Nat) (h : ∀ i, a ≤ i → i < a + t → tell i (D.getD i []) (O.getD i []) = [f i]) : read D O (a + t) = read D O a ++ (List.range t).map (fun i => f (a + i)) := by
  induction t with
  | zero => simp
  | succ t ih =>
    rw [← Nat.add_assoc, read, ih (fun i h1 h2 => h i h1 (by omega)), h (a + t) (by omega) (by omega), List.range_succ, List.map_append, List.append_assoc]
    rfl

theorem read_none (D O : List (List UInt8)) (a t : Nat) (h : ∀ i, a ≤ i → i < a + t → tell i (D.getD i []) (O.getD i []) = []) : read D O (a + t) = read D O a := by
  induction t with
  | zero => simp
  | succ t ih => rw [← Nat.add_assoc, read, ih (fun i h1 h2 => h i h1 (by omega)), h (a + t) (by omega) (by omega), List.append_nil]

/-- What the slot at a place tells. -/
def fnd (ss : List Sl) (i : Nat) : Fnd :=
  match ss[i]? with
  | some x => ⟨i, x.k, x.l, x.s, sect x⟩
  | none => ⟨i, 0, 0, 0, []⟩

theorem fnd_at {ss : List Sl} {i : Nat} {x : Sl} (h : ss[i]? = some x) : fnd ss i = ⟨i, x.k, x.l, x.s, sect x⟩ := by
  unfold fnd
  rw [h]

theorem getD_map {α : Type} (l : List α) (f : α → List UInt8) {i : Nat} {x : α} (h : l[i]? = some x) : (l.map f).getD i [] = f x := by
  simp [List.getD, h]

section
variable {ss : List Sl} {N : Nat}

theorem fill_slot {i : Nat} {x : Sl} (h : ss[i]? = some x) : (fill N (ss.map Sl.pc))[i]? = some x.pc := by
  have hl : i < (ss.map Sl.pc).length := by have := (List.getElem?_eq_some_iff.1 h).1; simpa using this
  unfold fill
  rw [List.getElem?_append_left hl, List.getElem?_map, h]
  rfl

theorem fill_pad {i : Nat} (h : ss.length ≤ i) (hi : i < N) : (fill N (ss.map Sl.pc))[i]? = some pad := by
  unfold fill
  rw [List.getElem?_append_right (by simpa using h)]
  rw [List.getElem?_replicate, if_pos (by simp; omega)]

theorem tell_slot (hok : ∀ p ∈ ss.map Sl.pc, p.Ok) {i : Nat} (hi : i < ss.length) : tell i (((fill N (ss.map Sl.pc)).map Pc.d).getD i []) (((fill N (ss.map Sl.pc)).map Pc.code).getD i []) = [fnd ss i] := by
  obtain ⟨x, hx⟩ : ∃ x, ss[i]? = some x := ⟨_, List.getElem?_eq_getElem hi⟩
  have hf := fill_slot (N := N) hx
  have hp : x.pc.Ok := hok _ (List.mem_map.2 ⟨x, List.mem_of_getElem? hx, rfl⟩)
  rw [getD_map _ _ hf, getD_map _ _ hf, tell_pc hp, fnd_at hx]
  unfold Pc.fd
  rw [if_neg (by rcases Sl.kind hp with h | h <;> (show x.k ≠ 3; omega))]
  rfl

theorem tell_pad {i : Nat} (h : ss.length ≤ i) (hi : i < N) : tell i (((fill N (ss.map Sl.pc)).map Pc.d).getD i []) (((fill N (ss.map Sl.pc)).map Pc.code).getD i []) = [] := by
  have hf := fill_pad h hi
  rw [getD_map _ _ hf, getD_map _ _ hf, tell_pc pad_ok]
  rfl

/-- What a page that was built tells: its slots. -/
theorem all_built (hok : ∀ p ∈ ss.map Sl.pc, p.Ok) (hN : ss.length ≤ N) : all ((fill N (ss.map Sl.pc)).map Pc.d) ((fill N (ss.map Sl.pc)).map Pc.code) = (List.range ss.length).map (fnd ss) := by
  unfold all
  rw [List.length_map, List.length_map, Nat.min_self, fill_len (by simpa using hN)]
  obtain ⟨t, rfl⟩ : ∃ t, N = ss.length + t := ⟨N - ss.length, by omega⟩
  rw [read_none _ _ ss.length t (fun i h1 h2 => tell_pad h1 h2)]
  have h := read_seg ((fill (ss.length + t) (ss.map Sl.pc)).map Pc.d) ((fill (ss.length + t) (ss.map Sl.pc)).map Pc.code) (fnd ss) 0 ss.length (fun i _ h2 => tell_slot hok (by omega))
  rw [Nat.zero_add] at h
  rw [h, read, List.nil_append]
  congr 1
  funext i
  rw [Nat.zero_add]
end

end Go.Proofs.Yteonjdigcecceaa.Page
