/-
  A device as the log of what was done with it: plain mathematics. Nothing of the program's code is named here.
-/
import Derived.Test.YtlmdlhfdacmcnaaNandMath
namespace Go.Proofs.Ytlmdlhfdacmcnaa.Nand
open Go.RowKit

/-- Something that was done: a block was erased (g is -1), or of a page these sectors can be read. -/
structure Ev where
  u : Int
  b : Int
  g : Int
  dat : List (List UInt8)
  oob : List (List UInt8)

/-- Has it to do with a page? -/
def Ev.meets (e : Ev) (u b g : Int) : Prop := e.u = u ∧ e.b = b ∧ (e.g = -1 ∨ e.g = g)
instance (e : Ev) (u b g : Int) : Decidable (e.meets u b g) := by unfold Ev.meets; infer_instance

def Ev.gives (e : Ev) (t : Nat) : Option (List UInt8 × List UInt8) := if t < e.dat.length then some (e.dat.getD t [], e.oob.getD t []) else none

/-- What the log tells of a sector: the last thing that was done with its page, or its block (the last one first). -/
def seen (u b g : Int) (t : Nat) : List Ev → Option (List UInt8 × List UInt8)
  | [] => none
  | e :: r => if e.meets u b g then e.gives t else seen u b g t r

def told (evs : List Ev) (u b g : Int) (t : Nat) : Option (List UInt8 × List UInt8) := seen u b g t evs.reverse

theorem told_snoc (evs : List Ev) (e : Ev) (u b g : Int) (t : Nat) : told (evs ++ [e]) u b g t = if e.meets u b g then e.gives t else told evs u b g t := by
  unfold told
  rw [List.reverse_append]
  rfl

section
variable {G : Shape} {st : St} {u b g t : Int}

/-- Nothing from the next page on can be read. -/
def Inv (G : Shape) (st : St) : Prop := (∀ n, 0 ≤ st.nx n ∧ st.nx n ≤ G.p) ∧ ∀ u b g t, Geom.there G.U G.k G.p G.s u b g t → st.nx (blk G u b) ≤ g → st.rd (adr G u b g t) = none

theorem lay_else (h : G.Ok) (hh : has G u b) (hg0 : 0 ≤ g) (hg1 : g < G.p) {dat oob : List (List UInt8)} {rd : Int → Option (List UInt8 × List UInt8)} {m : Nat} (hm : (m : Int) ≤ G.s) {u' b' g' t' : Int} (hp : Geom.there G.U G.k G.p G.s u' b' g' t') :
    lay G u b g dat oob rd m (adr G u' b' g' t') = if u' = u ∧ b' = b ∧ g' = g ∧ t' < m then some (dat.getD t'.toNat [], oob.getD t'.toNat []) else rd (adr G u' b' g' t') := by
  have ht0 : 0 ≤ t' := hp.2.2.2.2.2.2.1
  induction m with
  | zero =>
    rw [if_neg (fun h => by omega)]
    rfl
  | succ m ih =>
    simp only [lay]
    have hpm : Geom.there G.U G.k G.p G.s u b g m := ⟨hh.1, hh.2.1, hh.2.2.1, hh.2.2.2, hg0, hg1, by omega, by omega⟩
    by_cases e : adr G u' b' g' t' = adr G u b g m
    · obtain ⟨rfl, rfl, rfl, rfl⟩ := adr_inj h hp hpm e
      rw [if_pos rfl, if_pos ⟨rfl, rfl, rfl, by omega⟩, Int.toNat_natCast]
    · rw [if_neg e, ih (by omega)]
      refine ite_iff ⟨fun h => ⟨h.1, h.2.1, h.2.2.1, by omega⟩, fun h => ⟨h.1, h.2.1, h.2.2.1, ?_⟩⟩ _ _
      have : t' ≠ m := fun e2 => e (by rw [h.1, h.2.1, h.2.2.1, e2])
      omega

theorem wipe_at (h : G.Ok) (hh : has G u b) {rd : Int → Option (List UInt8 × List UInt8)} {u' b' g' t' : Int} (hp : Geom.there G.U G.k G.p G.s u' b' g' t') :
    wipe G u b rd (adr G u' b' g' t') = if u' = u ∧ b' = b then none else rd (adr G u' b' g' t') := by
  unfold wipe gone
  refine ite_iff ⟨fun h => ?_, fun h => ?_⟩ _ _
  · obtain ⟨g, t, h1, h2, h3, h4, h5⟩ := h
    have hp2 : Geom.there G.U G.k G.p G.s u b g t := ⟨hh.1, hh.2.1, hh.2.2.1, hh.2.2.2, h1, by omega, h2, h3⟩
    have := adr_inj (by assumption) hp hp2 h5
    exact ⟨this.1, this.2.1⟩
  · exact ⟨g', t', hp.2.2.2.2.1, hp.2.2.2.2.2.2.1, hp.2.2.2.2.2.2.2, Or.inl hp.2.2.2.2.2.1, by rw [h.1, h.2]⟩

/-- The log tells what the state tells. -/
def Tells (G : Shape) (evs : List Ev) (rd : Int → Option (List UInt8 × List UInt8)) : Prop := ∀ u b g t, Geom.there G.U G.k G.p G.s u b g t → rd (adr G u b g t) = told evs u b g t.toNat

theorem Tells.wiped (h : G.Ok) (hh : has G u b) {evs : List Ev} {rd : Int → Option (List UInt8 × List UInt8)} (ht : Tells G evs rd) : Tells G (evs ++ [⟨u, b, -1, [], []⟩]) (wipe G u b rd) := fun u' b' g' t' hp => by
  rw [wipe_at h hh hp, told_snoc]
  by_cases e : u' = u ∧ b' = b
  · rw [if_pos e, if_pos ⟨e.1.symm, e.2.symm, Or.inl rfl⟩]
    simp [Ev.gives]
  · rw [if_neg e, if_neg (fun h => e ⟨h.1.symm, h.2.1.symm⟩)]
    exact ht u' b' g' t' hp

theorem Tells.laid (h : G.Ok) (hh : has G u b) (hg0 : 0 ≤ g) (hg1 : g < G.p) {evs : List Ev} {rd : Int → Option (List UInt8 × List UInt8)} (ht : Tells G evs rd) (hn : ∀ t, Geom.there G.U G.k G.p G.s u b g t → rd (adr G u b g t) = none) {dat oob : List (List UInt8)} {m : Nat} (hm : (m : Int) ≤ G.s) (hd : m ≤ dat.length) :
    Tells G (evs ++ [⟨u, b, g, dat.take m, oob.take m⟩]) (lay G u b g dat oob rd m) := fun u' b' g' t' hp => by
  have ht0 : 0 ≤ t' := hp.2.2.2.2.2.2.1
  rw [lay_else h hh hg0 hg1 hm hp, told_snoc]
  by_cases e : u' = u ∧ b' = b ∧ g' = g
  · obtain ⟨rfl, rfl, rfl⟩ := e
    have hme : (⟨u', b', g', dat.take m, oob.take m⟩ : Ev).meets u' b' g' := ⟨rfl, rfl, Or.inr rfl⟩
    rw [if_pos hme]
    unfold Ev.gives
    simp only [List.length_take]
    by_cases e2 : t' < m
    · rw [if_pos ⟨by trivial, by trivial, by trivial, e2⟩, if_pos (by omega)]
      simp only [List.getD_eq_getElem?_getD, List.getElem?_take_of_lt (show t'.toNat < m by omega)]
    · rw [if_neg (fun h => e2 h.2.2.2), if_neg (by omega)]
      exact hn t' hp
  · rw [if_neg (fun h => e ⟨h.1, h.2.1, h.2.2.1⟩), if_neg (fun hm => e ⟨hm.1.symm, hm.2.1.symm, hm.2.2.elim (fun h => by have h : g = -1 := h; omega) (fun h => h.symm)⟩)]
    exact ht u' b' g' t' hp

theorem Inv.refused (h : Inv G st) : Inv G st.refused := h

/-- What a page that may be programmed is. -/
theorem may_is {u b g : Int} {dat oob : List (List UInt8)} (hm : st.may G u b g dat oob = 0) : mayBe G u b g dat oob ∧ st.rt (blk G u b) = false ∧ g = st.nx (blk G u b) := by
  unfold St.may at hm
  by_cases h1 : mayBe G u b g dat oob
  · rw [if_neg (fun h => h h1)] at hm
    by_cases h2 : st.rt (blk G u b) = true
    · rw [if_pos h2] at hm
      omega
    · rw [if_neg h2] at hm
      by_cases h3 : g = st.nx (blk G u b)
      · exact ⟨h1, by simpa using h2, h3⟩
      · rw [if_pos h3] at hm
        omega
  · rw [if_pos h1] at hm
    omega

/-- One page more of a block is used up; of it, or of none, something was laid. -/
theorem Inv.used (hG : G.Ok) (h : Inv G st) {u b g : Int} (hh : has G u b) (hg0 : 0 ≤ g) (hg1 : g < G.p) (hx : g = st.nx (blk G u b)) (dat oob : List (List UInt8)) {m : Nat} (hm : (m : Int) ≤ G.s) (plan : List UInt8) (many : Int) (off : Bool) :
    Inv G { st with nx := upd st.nx (blk G u b) (g + 1), plan := plan, many := many, rd := lay G u b g dat oob st.rd m, off := off } := by
  refine ⟨fun n => ?_, fun u' b' g' t' hp hn => ?_⟩
  · show 0 ≤ upd st.nx (blk G u b) (g + 1) n ∧ upd st.nx (blk G u b) (g + 1) n ≤ G.p
    unfold upd
    split
    · omega
    · exact h.1 n
  · show lay G u b g dat oob st.rd m (adr G u' b' g' t') = none
    replace hn : upd st.nx (blk G u b) (g + 1) (blk G u' b') ≤ g' := hn
    have hh' : has G u' b' := ⟨hp.1, hp.2.1, hp.2.2.1, hp.2.2.2.1⟩
    rw [lay_else hG hh hg0 hg1 hm hp]
    unfold upd at hn
    by_cases e : blk G u' b' = blk G u b
    · rw [if_pos e] at hn
      rw [if_neg (fun h => by omega)]
      exact h.2 u' b' g' t' hp (by rw [e, ← hx]; omega)
    · rw [if_neg e] at hn
      rw [if_neg (fun h => e (by rw [h.1, h.2.1]))]
      exact h.2 u' b' g' t' hp hn

theorem many_in (xs : List UInt8) {s : Int} (h0 : 0 ≤ s) : 0 ≤ Plan.many xs s ∧ Plan.many xs s ≤ s := by
  cases xs with
  | nil => exact ⟨Int.le_refl _, h0⟩
  | cons x r =>
    show 0 ≤ Plan.wrt _ s ∧ Plan.wrt _ s ≤ s
    unfold Plan.wrt
    split
    · have h3 := Int.emod_nonneg ((x.toNat : Int) / 4) (show s + 1 ≠ 0 by omega)
      have h4 := Int.emod_lt_of_pos ((x.toNat : Int) / 4) (show 0 < s + 1 by omega)
      omega
    · omega

theorem Inv.program (hG : G.Ok) (h : Inv G st) (u b g : Int) (dat oob : List (List UInt8)) : Inv G (st.program G u b g dat oob).2 := by
  have hs0 : 1 ≤ G.s := hG.may.2.2.2.2.2.2.2.2.1
  unfold St.program
  by_cases hoff : st.off = true
  · rw [if_pos hoff]
    exact h
  · rw [if_neg hoff]
    by_cases hm : st.may G u b g dat oob = 0
    · rw [if_neg (fun h => h hm)]
      obtain ⟨⟨hh, hg0, hg1, _, _⟩, _, hx⟩ := may_is hm
      have hml := many_in st.plan (s := G.s) (by omega)
      by_cases h1 : Plan.says st.plan = 1
      · rw [if_pos h1]
        exact h.used hG hh hg0 hg1 hx dat oob (m := 0) (by omega) _ _ _
      · rw [if_neg h1]
        by_cases h2 : Plan.says st.plan = 2
        · rw [if_pos h2]
          exact h.used hG hh hg0 hg1 hx dat oob (by omega) _ _ _
        · rw [if_neg h2]
          exact h.used hG hh hg0 hg1 hx dat oob (by omega) _ _ _
    · rw [if_pos hm]
      exact h

theorem Inv.wiped (hG : G.Ok) (h : Inv G st) {u b : Int} (hh : has G u b) (x : Int) (h0 : 0 ≤ x) (h1 : x ≤ G.p) (wr : Nat → Int) (plan : List UInt8) (many : Int) (off : Bool) :
    Inv G { st with wr := wr, rd := wipe G u b st.rd, nx := upd st.nx (blk G u b) x, plan := plan, many := many, off := off } := by
  refine ⟨fun n => ?_, fun u' b' g' t' hp hn => ?_⟩
  · show 0 ≤ upd st.nx (blk G u b) x n ∧ upd st.nx (blk G u b) x n ≤ G.p
    unfold upd
    split
    · omega
    · exact h.1 n
  · show wipe G u b st.rd (adr G u' b' g' t') = none
    replace hn : upd st.nx (blk G u b) x (blk G u' b') ≤ g' := hn
    have hh' : has G u' b' := ⟨hp.1, hp.2.1, hp.2.2.1, hp.2.2.2.1⟩
    rw [wipe_at hG hh hp]
    by_cases e : u' = u ∧ b' = b
    · rw [if_pos e]
    · rw [if_neg e]
      unfold upd at hn
      rw [if_neg (fun e2 => e (blk_inj hG hh' hh e2))] at hn
      exact h.2 u' b' g' t' hp hn

theorem Inv.erase (hG : G.Ok) (h : Inv G st) (u b : Int) : Inv G (st.erase G u b).2 := by
  have hp0 : 1 ≤ G.p := hG.may.2.2.2.2.2.2.1
  unfold St.erase
  by_cases hoff : st.off = true
  · rw [if_pos hoff]
    exact h
  · rw [if_neg hoff]
    by_cases hh : has G u b
    · rw [if_neg (fun h => h hh)]
      by_cases hrt : st.rt (blk G u b) = true
      · rw [if_pos hrt]
        exact h
      · rw [if_neg hrt]
        by_cases h1 : Plan.says st.plan = 1
        · rw [if_pos h1]
          exact h.wiped hG hh _ (by omega) (by omega) _ _ _ _
        · rw [if_neg h1]
          by_cases h2 : Plan.says st.plan = 2
          · rw [if_pos h2]
            exact h.wiped hG hh _ (by omega) (by omega) _ _ _ _
          · rw [if_neg h2]
            exact h.wiped hG hh 0 (by omega) (by omega) _ _ _ _
    · rw [if_pos hh]
      exact h

theorem Inv.retire (h : Inv G st) (u b : Int) : Inv G (st.retire G u b).2 := by
  unfold St.retire
  split
  · exact h
  · split
    · exact h
    · exact h

theorem Inv.fresh (hG : G.Ok) (rt : Nat → Bool) : Inv G (fresh rt) := ⟨fun _ => ⟨Int.le_refl _, by have : 1 ≤ G.p := hG.may.2.2.2.2.2.2.1; show (0 : Int) ≤ G.p; omega⟩, fun _ _ _ _ _ _ => rfl⟩

/-- How often the plan was asked. -/
theorem program_many (u b g : Int) (dat oob : List (List UInt8)) (h : 0 ≤ st.many) : 0 ≤ (st.program G u b g dat oob).2.many ∧ (st.program G u b g dat oob).2.many ≤ st.many + 1 := by
  unfold St.program
  split
  · exact ⟨h, by show st.many ≤ _; omega⟩
  · split
    · exact ⟨h, by show st.many ≤ _; omega⟩
    · split
      · exact ⟨by show 0 ≤ st.many + 1; omega, Int.le_refl _⟩
      · split
        · exact ⟨by show 0 ≤ st.many + 1; omega, Int.le_refl _⟩
        · exact ⟨by show 0 ≤ st.many + 1; omega, Int.le_refl _⟩
theorem erase_many (u b : Int) (h : 0 ≤ st.many) : 0 ≤ (st.erase G u b).2.many ∧ (st.erase G u b).2.many ≤ st.many + 1 := by
  unfold St.erase
  split
  · exact ⟨h, by show st.many ≤ _; omega⟩
  · split
    · exact ⟨h, by show st.many ≤ _; omega⟩
    · split
      · exact ⟨h, by show st.many ≤ _; omega⟩
      · split
        · exact ⟨by show 0 ≤ st.many + 1; omega, Int.le_refl _⟩
        · split
          · exact ⟨by show 0 ≤ st.many + 1; omega, Int.le_refl _⟩
          · exact ⟨by show 0 ≤ st.many + 1; omega, Int.le_refl _⟩
theorem retire_many (u b : Int) : (st.retire G u b).2.many = st.many := by
  unfold St.retire
  split
  · rfl
  · split <;> rfl
end

end Go.Proofs.Ytlmdlhfdacmcnaa.Nand
