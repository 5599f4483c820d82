/-
  Values in shards of 64, in memory: which blocks they lie in, what they hold, and what keeps them. Nothing of the program's code is named here.
-/
import Derived.Test.YtpheblblkkclbaaTurn
namespace Go.Proofs.Ytpheblblkkclbaa.L2pPkg
open Go.RowKit
set_option maxRecDepth 4000

abbrev ptr (g o : Nat) : Value := .pointer (some ⟨g, o, none⟩)

/-- A shard's slice: nil, or one of 64. -/
def slot : Option Nat → Value
  | none => .slice none 0 0
  | some d => .slice (some ⟨d, 0, none⟩) 64 64

/-- n shards, their list in block L, the shard s in block a s; a row of sz cells each number, fi where there is no shard, all in all f. -/
structure Sh (w : World) (L n : Nat) (a : Nat → Option Nat) (sz : Nat) (fi : List Value) (f : Nat → List Value) : Prop where
  list : ∀ s, s < n → w.cell? ⟨L, s, none⟩ = some (slot (a s)) ∧ w.frozen? ⟨L, s, none⟩ = false
  no : ∀ i, i < n * 64 → a (i / 64) = none → f i = fi
  yes : ∀ i d, i < n * 64 → a (i / 64) = some d → ∀ j v, (f i)[j]? = some v → w.cell? ⟨d, (i % 64) * sz + j, none⟩ = some v ∧ w.frozen? ⟨d, (i % 64) * sz + j, none⟩ = false
  inj : ∀ s s' d, s < n → s' < n → a s = some d → a s' = some d → s = s'
  apart : ∀ s, s < n → a s ≠ some L
  len : ∀ i, i < n * 64 → (f i).length = sz
  pos : 0 < n
  wide : 0 < sz

/-- The blocks that they lie in. -/
def shOwn (L n : Nat) (a : Nat → Option Nat) (b : Nat) : Prop := b = L ∨ ∃ s, s < n ∧ a s = some b

section
variable {w w' : World} {L n : Nat} {a : Nat → Option Nat} {sz : Nat} {fi : List Value} {f : Nat → List Value}

theorem Sh.lt (h : Sh w L n a sz fi f) : ∀ b, shOwn L n a b → b < w.heap.size := by
  rintro b (rfl | ⟨s, hs, hb⟩)
  · exact World.block_lt_of_cell? _ _ (h.list 0 h.pos).1
  · have hi : s * 64 < n * 64 := by omega
    have hl := h.len (s * 64) hi
    have h0 : 0 < (f (s * 64)).length := by have := h.wide; omega
    exact World.block_lt_of_cell? _ _ (h.yes (s * 64) b hi (by rw [Nat.mul_div_cancel _ (by omega)]; exact hb) 0 _ (List.getElem?_eq_getElem h0)).1

theorem Sh.keep (h : Sh w L n a sz fi f) (hk : ∀ b, shOwn L n a b → w'.heap[b]? = w.heap[b]?) : Sh w' L n a sz fi f := by
  have hc : ∀ b j, shOwn L n a b → w'.cell? ⟨b, j, none⟩ = w.cell? ⟨b, j, none⟩ := fun b j hb => World.cell?_of_block (w := w) (hk b hb)
  have hf : ∀ b j, shOwn L n a b → w'.frozen? ⟨b, j, none⟩ = w.frozen? ⟨b, j, none⟩ := fun b j hb => by simp [World.frozen?, hk b hb]
  refine ⟨fun s hs => ?_, h.no, fun i d hi hd j v hv => ?_, h.inj, h.apart, h.len, h.pos, h.wide⟩
  · rw [hc L s (.inl rfl), hf L s (.inl rfl)]
    exact h.list s hs
  · have ho : shOwn L n a d := .inr ⟨i / 64, by omega, hd⟩
    rw [hc d _ ho, hf d _ ho]
    exact h.yes i d hi hd j v hv

theorem Sh.below (h : Sh w L n a sz fi f) (hb : Below w.heap.size w w') : Sh w' L n a sz fi f := h.keep fun b ho => hb.block b (h.lt b ho)

theorem Sh.turn {O O' : Nat → Prop} (h : Sh w L n a sz fi f) (ht : Turn O O' w w') (hd : ∀ b, shOwn L n a b → ¬ O b) : Sh w' L n a sz fi f := h.keep (ht.kept h.lt hd)

theorem Sh.congr {f' : Nat → List Value} (h : Sh w L n a sz fi f) (he : ∀ i, i < n * 64 → f' i = f i) : Sh w L n a sz fi f' :=
  ⟨h.list, fun i hi hn => (he i hi).trans (h.no i hi hn), fun i d hi hd j v hv => h.yes i d hi hd j v (by rw [← he i hi]; exact hv), h.inj, h.apart, fun i hi => by rw [he i hi]; exact h.len i hi, h.pos, h.wide⟩

/-- One cell of a row laid anew. -/
theorem Sh.set (h : Sh w L n a sz fi f) {i d j : Nat} (hi : i < n * 64) (hd : a (i / 64) = some d) (hj : j < sz) (v : Value) :
    Sh (w.setCell ⟨d, (i % 64) * sz + j, none⟩ v) L n a sz fi (fun k => if k = i then (f i).set j v else f k) := by
  have hL : d ≠ L := fun e => h.apart (i / 64) (by omega) (by rw [hd, e])
  have hl := h.len i hi
  refine ⟨fun s hs => ?_, fun k hk hn => ?_, fun k e hk he j' v' hv => ?_, h.inj, h.apart, fun k hk => ?_, h.pos, h.wide⟩
  · rw [World.frozen?_setCell, World.cell?_setCell_other w _ _ v (fun e => hL (by cases e; rfl))]
    exact h.list s hs
  · show (if k = i then _ else _) = _
    rw [if_neg (fun e => by rw [e, hd] at hn; cases hn)]
    exact h.no k hk hn
  · rw [World.frozen?_setCell]
    have hj' : j' < sz := by
      have h1 := (List.getElem?_eq_some_iff.1 hv).1
      have h2 : (if k = i then (f i).set j v else f k).length = sz := by
        split
        · rw [List.length_set, hl]
        · exact h.len k hk
      omega
    by_cases hki : k = i
    · subst hki
      have hed : e = d := by rw [hd] at he; injection he with he; exact he.symm
      subst hed
      have hv2 : ((f k).set j v)[j']? = some v' := by simpa using hv
      by_cases hjj : j' = j
      · subst hjj
        rw [List.getElem?_set_self (by omega)] at hv2
        injection hv2 with hv2
        subst hv2
        have h0 := h.yes k e hk hd j' _ (List.getElem?_eq_getElem (by omega))
        exact ⟨World.cell?_setCell_same _ _ _ h0.1, h0.2⟩
      · rw [List.getElem?_set_ne (fun e => hjj e.symm)] at hv2
        have h0 := h.yes k e hk hd j' v' hv2
        exact ⟨(World.cell?_setCell_other w _ _ v (fun e => by injection e with _ e; omega)).trans h0.1, h0.2⟩
    · have hv2 : (f k)[j']? = some v' := by simpa [hki] using hv
      have h0 := h.yes k e hk he j' v' hv2
      refine ⟨(World.cell?_setCell_other w _ _ v (fun e2 => ?_)).trans h0.1, h0.2⟩
      injection e2 with e3 e4
      subst e3
      have e5 := h.inj (k / 64) (i / 64) _ (by omega) (by omega) he hd
      have e6 : k % 64 ≠ i % 64 := by omega
      rcases Nat.lt_or_gt_of_ne e6 with h7 | h7
      · have : (k % 64 + 1) * sz ≤ (i % 64) * sz := Nat.mul_le_mul_right _ h7
        rw [Nat.add_mul] at this
        omega
      · have : (i % 64 + 1) * sz ≤ (k % 64) * sz := Nat.mul_le_mul_right _ h7
        rw [Nat.add_mul] at this
        omega
  · show (if k = i then _ else _ : List Value).length = sz
    split
    · rw [List.length_set, hl]
    · exact h.len k hk

/-- A shard more. -/
def upd (a : Nat → Option Nat) (s Q : Nat) : Nat → Option Nat := fun k => if k = s then some Q else a k

theorem upd_same (a : Nat → Option Nat) (s Q : Nat) : upd a s Q s = some Q := if_pos rfl

theorem shOwn_upd {s Q b : Nat} (h : shOwn L n (upd a s Q) b) : shOwn L n a b ∨ b = Q := by
  rcases h with h | ⟨t, ht, hb⟩
  · exact .inl (.inl h)
  · unfold upd at hb
    split at hb
    · injection hb with hb
      exact .inr hb.symm
    · exact .inl (.inr ⟨t, ht, hb⟩)

theorem Sh.fill (h : Sh w L n a sz fi f) {s Q : Nat} (hs : s < n) (ha : a s = none) (hQ : ¬ shOwn L n a Q)
    (hf : ∀ r j v, r < 64 → fi[j]? = some v → w.cell? ⟨Q, r * sz + j, none⟩ = some v ∧ w.frozen? ⟨Q, r * sz + j, none⟩ = false) :
    Sh (w.setCell ⟨L, s, none⟩ (slot (some Q))) L n (upd a s Q) sz fi f := by
  have hQL : Q ≠ L := fun e => hQ (.inl e)
  have hother : ∀ b j, b ≠ L → (w.setCell ⟨L, s, none⟩ (slot (some Q))).cell? ⟨b, j, none⟩ = w.cell? ⟨b, j, none⟩ := fun b j hb => World.cell?_setCell_other w _ _ _ (fun e => hb (by cases e; rfl))
  refine ⟨fun t ht => ?_, fun i hi hn => ?_, fun i d hi hd j v hv => ?_, fun t t' d ht ht' h1 h2 => ?_, fun t ht => ?_, h.len, h.pos, h.wide⟩
  · rw [World.frozen?_setCell]
    unfold upd
    by_cases e : t = s
    · subst e
      rw [if_pos rfl]
      exact ⟨World.cell?_setCell_same _ _ _ (h.list t ht).1, (h.list t ht).2⟩
    · rw [if_neg e, World.cell?_setCell_other w _ _ _ (fun e2 => e (by cases e2; rfl))]
      exact h.list t ht
  · unfold upd at hn
    split at hn
    · cases hn
    · exact h.no i hi hn
  · rw [World.frozen?_setCell]
    unfold upd at hd
    split at hd
    · rename_i e
      injection hd with hd
      subst hd
      rw [h.no i hi (by rw [e]; exact ha)] at hv
      rw [hother _ _ hQL]
      exact hf (i % 64) j v (Nat.mod_lt _ (by omega)) hv
    · rw [hother _ _ (fun e => h.apart (i / 64) (by omega) (by rw [hd, e]))]
      exact h.yes i d hi hd j v hv
  · unfold upd at h1 h2
    split at h1 <;> split at h2
    · omega
    · injection h1 with h1
      exact absurd (.inr ⟨t', ht', by rw [h2, h1]⟩) hQ
    · injection h2 with h2
      exact absurd (.inr ⟨t, ht, by rw [h1, h2]⟩) hQ
    · exact h.inj t t' d ht ht' h1 h2
  · unfold upd
    split
    · intro e
      injection e with e
      exact hQL e
    · exact h.apart t ht
end

end Go.Proofs.Ytpheblblkkclbaa.L2pPkg
