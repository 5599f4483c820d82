/-
  Plain mathematics: a ring of slots one behind the other, the first of which are out. Nothing of the program's code is named here.
-/
import Derived.Test.YtmefmhjebodjgaaRingMath
namespace Go.Proofs.Ytmefmhjebodjgaa.Ring

def lbaSlot (l : Int) : Slot := ⟨0, l, 0, [], 0⟩

/-- N slots, of which the first nx are out. -/
def stt (N nx : Nat) : All := (List.range N).map fun (i : Nat) => (lbaSlot i, if i < nx then 1 else 0)

theorem stt_len (N nx : Nat) : (stt N nx).length = N := by simp [stt]
theorem stt_at (N nx i : Nat) (h : i < N) : (stt N nx)[i]? = some (lbaSlot i, if i < nx then 1 else 0) := by simp [stt, h]
theorem stt_snoc (N nx : Nat) : stt (N + 1) nx = stt N nx ++ [(lbaSlot N, if N < nx then 1 else 0)] := by simp [stt, List.range_succ]
theorem stt_zero (nx : Nat) : stt 0 nx = [] := rfl

theorem stt_not (N nx : Nat) : ∀ x ∈ stt N nx, x.2 ≠ 2 := by
  intro x hx
  simp only [stt, List.mem_map] at hx
  obtain ⟨i, _, rfl⟩ := hx
  show (if i < nx then (1 : Int) else 0) ≠ 2
  split <;> decide

theorem tl_zero (l : All) (h : ∀ x ∈ l, x.2 ≠ 2) : tl l = 0 := by
  refine tl_is l 0 (Nat.zero_le _) (fun x hx => by simp at hx) (fun x hx => h x (List.mem_of_getElem? hx))

theorem stt_tl (N nx : Nat) : tl (stt N nx) = 0 := tl_zero _ (stt_not N nx)

theorem stt_sel (N nx : Nat) : sel (isQ 0) (stt N nx) = List.range' nx (N - nx) := by
  induction N with
  | zero => simp [stt_zero, sel]
  | succ N ih =>
    rw [stt_snoc, sel_snoc, ih, stt_len]
    by_cases h : N < nx
    · rw [if_pos h, show N + 1 - nx = 0 by omega, show N - nx = 0 by omega]
      simp [isQ]
    · rw [if_neg h, show N + 1 - nx = (N - nx) + 1 by omega, List.range'_concat]
      simp [isQ]
      omega

theorem mark_get {α : Type} (f : α → α) (hf : ∀ x, f (f x) = f x) (ps : List Nat) (l : List α) (j : Nat) : (mark f ps l)[j]? = if j ∈ ps then (l[j]?).map f else l[j]? := by
  induction ps generalizing l with
  | nil => simp [mark]
  | cons i ps ih =>
    rw [mark_cons, ih, List.getElem?_modify]
    by_cases e : i = j
    · subst e
      cases l[i]? with
      | none => simp
      | some x => by_cases h : i ∈ ps <;> simp [h, hf]
    · have e2 : ¬ j = i := fun h => e h.symm
      cases l[j]? with
      | none => simp
      | some x => by_cases h : j ∈ ps <;> simp [h, e, e2]

theorem stt_mark (N nx m : Nat) : mark (out 1) (List.range' nx m) (stt N nx) = stt N (nx + m) := by
  apply List.ext_getElem?
  intro j
  rw [mark_get (out 1) (fun _ => rfl)]
  rcases Nat.lt_or_ge j N with hj | hj
  · rw [stt_at N nx j hj, stt_at N _ j hj]
    by_cases h1 : j ∈ List.range' nx m
    · rw [if_pos h1]
      rw [List.mem_range'_1] at h1
      rw [if_neg (by omega), if_pos (by omega)]
      rfl
    · rw [if_neg h1]
      rw [List.mem_range'_1] at h1
      by_cases h2 : j < nx
      · rw [if_pos h2, if_pos (by omega)]
      · rw [if_neg h2, if_neg (by omega)]
  · rw [List.getElem?_eq_none (by rw [stt_len]; exact hj), List.getElem?_eq_none (by rw [stt_len]; exact hj)]
    simp

theorem take_range' (a m k : Nat) : (List.range' a m).take k = List.range' a (min k m) := by
  apply List.ext_getElem?
  intro j
  rw [List.getElem?_take]
  rcases Nat.lt_or_ge j k with h | h
  · rw [if_pos h]
    rcases Nat.lt_or_ge j m with h2 | h2
    · rw [List.getElem?_range' h2, List.getElem?_range' (by omega)]
    · rw [List.getElem?_eq_none (by simpa using h2), List.getElem?_eq_none (by simp; omega)]
  · rw [if_neg (by omega), List.getElem?_eq_none (by simp; omega)]

/-- The slot that has come back is the first that waits. -/
theorem stt_back (N nx b : Nat) (hb : b < nx) (hn : nx ≤ N) : (sel (isQ 0) ((stt N nx).modify b (out 0))).take 1 = [b] := by
  have hlen : ((stt N nx).modify b (out 0)).length = N := by rw [List.length_modify, stt_len]
  have hget : ∀ j, j < N → ((stt N nx).modify b (out 0))[j]? = some (lbaSlot j, if j = b then 0 else if j < nx then 1 else 0) := by
    intro j hj
    rw [List.getElem?_modify, stt_at N nx j hj]
    by_cases e : b = j
    · subst e
      simp [out]
    · have e2 : ¬ j = b := fun h => e h.symm
      simp [e, e2]
  rw [sel_drop (isQ 0) _ b (by rw [hlen]; omega) (fun x hx => by
    obtain ⟨j, hj⟩ := List.getElem?_of_mem hx
    rw [List.getElem?_take] at hj
    split at hj
    · rw [hget j (by omega)] at hj
      injection hj with hj
      rw [← hj]
      rw [if_neg (by omega), if_pos (by omega)]
      simp [isQ]
    · cases hj)]
  have hd : ((stt N nx).modify b (out 0)).drop b = (lbaSlot b, 0) :: ((stt N nx).modify b (out 0)).drop (b + 1) := by
    obtain ⟨hl, he⟩ := List.getElem?_eq_some_iff.1 (hget b (by omega))
    rw [List.drop_eq_getElem_cons hl, he]
    simp
  rw [hd]
  simp [sel, isQ]
end Go.Proofs.Ytmefmhjebodjgaa.Ring
