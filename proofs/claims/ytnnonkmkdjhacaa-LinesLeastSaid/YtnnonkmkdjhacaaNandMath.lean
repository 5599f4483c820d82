/-
  What a device keeps, and what its calls do to it: plain mathematics. Nothing of the program's code is named here.
-/
import Derived.Test.YtnnonkmkdjhacaaPlanMath
import Derived.Test.YtnnonkmkdjhacaaGeomWalks
namespace Go.Proofs.Ytnnonkmkdjhacaa.Nand
open Go.RowKit

/-- A geometry, its units, and the sectors of a row of pages, of a line, of all lines. -/
structure Shape where
  c : Int
  l : Int
  k : Int
  p : Int
  s : Int
  U : Int
  R : Int
  L : Int
  N : Int

abbrev Shape.Ok (G : Shape) : Prop := Geom.Sizes G.c G.l G.k G.p G.s G.U G.R G.L G.N

/-- What a device keeps. -/
structure St where
  plan : List UInt8
  many : Int
  nx : Nat → Int
  wr : Nat → Int
  rt : Nat → Bool
  rd : Int → Option (List UInt8 × List UInt8)
  off : Bool
  wrong : Int

def upd {α : Type} (f : Nat → α) (n : Nat) (v : α) : Nat → α := fun i => if i = n then v else f i

theorem ite_iff {α : Type} {p q : Prop} {dp : Decidable p} {dq : Decidable q} (h : p ↔ q) (x y : α) : @ite α p dp x y = @ite α q dq x y := by
  by_cases hp : p
  · rw [if_pos hp, if_pos (h.1 hp)]
  · rw [if_neg hp, if_neg (fun hq => hp (h.2 hq))]

theorem upd_same {α : Type} (f : Nat → α) (n : Nat) (v : α) : upd f n v n = v := if_pos rfl
theorem upd_other {α : Type} {f : Nat → α} {n i : Nat} {v : α} (h : i ≠ n) : upd f n v i = f i := if_neg h
theorem upd_upd {α : Type} (f : Nat → α) (n : Nat) (v v' : α) : upd (upd f n v) n v' = upd f n v' := by
  funext i
  unfold upd
  split <;> rfl

/-- There is such a block. -/
def has (G : Shape) (u b : Int) : Prop := 0 ≤ u ∧ u < G.U ∧ 0 ≤ b ∧ b < G.k
instance (G : Shape) (u b : Int) : Decidable (has G u b) := by unfold has; infer_instance

/-- A block's number. -/
def blk (G : Shape) (u b : Int) : Nat := (u * G.k + b).toNat

/-- A sector's address. -/
def adr (G : Shape) (u b g t : Int) : Int := b * G.L + g * G.R + u * G.s + t

/-- So many, each of so many bytes. -/
def fit (l : List (List UInt8)) (s : Int) (z : Nat) : Prop := (l.length : Int) = s ∧ ∀ x ∈ l, x.length = z
instance (l : List (List UInt8)) (s : Int) (z : Nat) : Decidable (fit l s z) := by unfold fit; infer_instance

/-- The first m sectors of a page are readable. -/
def lay (G : Shape) (u b g : Int) (dat oob : List (List UInt8)) (rd : Int → Option (List UInt8 × List UInt8)) : Nat → Int → Option (List UInt8 × List UInt8)
  | 0 => rd
  | m + 1 => fun a => if a = adr G u b g (m : Int) then some (dat.getD m [], oob.getD m []) else lay G u b g dat oob rd m a

/-- The sectors of a block ahead of one of its places are not readable. -/
noncomputable def gone (G : Shape) (u b gg tt : Int) (rd : Int → Option (List UInt8 × List UInt8)) : Int → Option (List UInt8 × List UInt8) :=
  fun a => open Classical in if ∃ g t : Int, 0 ≤ g ∧ 0 ≤ t ∧ t < G.s ∧ (g < gg ∨ g = gg ∧ t < tt) ∧ a = adr G u b g t then none else rd a

noncomputable def wipe (G : Shape) (u b : Int) (rd : Int → Option (List UInt8 × List UInt8)) : Int → Option (List UInt8 × List UInt8) := gone G u b G.p 0 rd

def St.refused (st : St) : St := { st with wrong := wrap64 (st.wrong + 1) }

def mayBe (G : Shape) (u b g : Int) (dat oob : List (List UInt8)) : Prop := has G u b ∧ 0 ≤ g ∧ g < G.p ∧ fit dat G.s 16 ∧ fit oob G.s 17
instance (G : Shape) (u b g : Int) (dat oob : List (List UInt8)) : Decidable (mayBe G u b g dat oob) := by unfold mayBe; infer_instance

/-- What tells whether a page may be programmed. -/
def St.may (G : Shape) (st : St) (u b g : Int) (dat oob : List (List UInt8)) : Int :=
  if ¬ mayBe G u b g dat oob then 1 else if st.rt (blk G u b) = true then 10 else if g ≠ st.nx (blk G u b) then 7 else 0

def St.program (G : Shape) (st : St) (u b g : Int) (dat oob : List (List UInt8)) : Int × St :=
  if st.off = true then (5, st)
  else if st.may G u b g dat oob ≠ 0 then (st.may G u b g dat oob, st.refused)
  else if Plan.says st.plan = 1 then (8, { st with nx := upd st.nx (blk G u b) (g + 1), plan := st.plan.tail, many := st.many + 1 })
  else if Plan.says st.plan = 2 then (5, { st with nx := upd st.nx (blk G u b) (g + 1), plan := st.plan.tail, many := st.many + 1, rd := lay G u b g dat oob st.rd (Plan.many st.plan G.s).toNat, off := true })
  else (0, { st with nx := upd st.nx (blk G u b) (g + 1), plan := st.plan.tail, many := st.many + 1, rd := lay G u b g dat oob st.rd G.s.toNat })

noncomputable def St.erase (G : Shape) (st : St) (u b : Int) : Int × St :=
  if st.off = true then (5, st)
  else if ¬ has G u b then (1, st.refused)
  else if st.rt (blk G u b) = true then (10, st.refused)
  else if Plan.says st.plan = 1 then (9, { st with wr := upd st.wr (blk G u b) (wrap64 (st.wr (blk G u b) + 1)), rd := wipe G u b st.rd, nx := upd st.nx (blk G u b) G.p, plan := st.plan.tail, many := st.many + 1 })
  else if Plan.says st.plan = 2 then (5, { st with wr := upd st.wr (blk G u b) (wrap64 (st.wr (blk G u b) + 1)), rd := wipe G u b st.rd, nx := upd st.nx (blk G u b) G.p, plan := st.plan.tail, many := st.many + 1, off := true })
  else (0, { st with wr := upd st.wr (blk G u b) (wrap64 (st.wr (blk G u b) + 1)), rd := wipe G u b st.rd, nx := upd st.nx (blk G u b) 0, plan := st.plan.tail, many := st.many + 1 })

def St.retire (G : Shape) (st : St) (u b : Int) : Int × St :=
  if st.off = true then (5, st) else if ¬ has G u b then (1, st.refused) else (0, { st with rt := upd st.rt (blk G u b) true })

def St.reads (G : Shape) (st : St) (a : Int) : List UInt8 × List UInt8 × Int :=
  if st.off = true then ([], [], 5) else if ¬ (0 ≤ a ∧ a < G.N) then ([], [], 2) else match st.rd a with | none => ([], [], 6) | some (x, y) => (x, y, 0)

def St.retired (G : Shape) (st : St) (u b : Int) : Bool := if has G u b then st.rt (blk G u b) else false
def St.next (G : Shape) (st : St) (u b : Int) : Int := if has G u b then st.nx (blk G u b) else 0
def St.wear (G : Shape) (st : St) (u b : Int) : Int := if has G u b then st.wr (blk G u b) else 0

/-- A new one. -/
def fresh (rt : Nat → Bool) : St := { plan := [], many := 0, nx := fun _ => 0, wr := fun _ => 0, rt := rt, rd := fun _ => none, off := false, wrong := 0 }

section
variable {G : Shape} {st : St} {u b g t : Int}

theorem blk_lt (h : G.Ok) (hh : has G u b) : 0 ≤ u * G.k + b ∧ u * G.k + b < G.U * G.k ∧ u * G.k + b < 512 ∧ ((blk G u b : Nat) : Int) = u * G.k + b := by
  obtain ⟨h0, h1, h2, h3⟩ := hh
  have h4 : 0 ≤ u * G.k := Int.mul_nonneg h0 (by omega)
  have h5 : u * G.k + G.k ≤ G.U * G.k := by
    have := Int.mul_le_mul_of_nonneg_right (show u + 1 ≤ G.U by omega) (show 0 ≤ G.k by omega)
    rw [Int.add_mul, Int.one_mul] at this
    omega
  have h6 : G.U * G.k ≤ 8 * 64 := Int.mul_le_mul h.u1 h.may.2.2.2.2.2.1 (by omega) (by omega)
  unfold blk
  omega

theorem blk_inj (h : G.Ok) {u' b' : Int} (hh : has G u b) (hh' : has G u' b') (e : blk G u b = blk G u' b') : u = u' ∧ b = b' := by
  have h1 := (blk_lt h hh).2.2.2
  have h2 := (blk_lt h hh').2.2.2
  rw [e, h2] at h1
  have d1 := Geom.divmod (q := u) hh.2.2.1 hh.2.2.2
  have d2 := Geom.divmod (q := u') hh'.2.2.1 hh'.2.2.2
  rw [← h1] at d1
  exact ⟨d1.1.symm.trans d2.1, d1.2.symm.trans d2.2⟩

theorem adr_bd (h : G.Ok) (hp : Geom.there G.U G.k G.p G.s u b g t) : 0 ≤ adr G u b g t ∧ adr G u b g t < G.N := by
  have := Geom.of_number h hp (a := adr G u b g t) rfl
  exact ⟨this.1, this.2.1⟩

theorem adr_inj (h : G.Ok) {u' b' g' t' : Int} (hp : Geom.there G.U G.k G.p G.s u b g t) (hp' : Geom.there G.U G.k G.p G.s u' b' g' t') (e : adr G u b g t = adr G u' b' g' t') : u = u' ∧ b = b' ∧ g = g' ∧ t = t' := by
  obtain ⟨_, _, e0, e1, e2, e3⟩ := Geom.of_number h hp (a := adr G u b g t) rfl
  obtain ⟨_, _, f0, f1, f2, f3⟩ := Geom.of_number h hp' (a := adr G u b g t) e
  exact ⟨e0.symm.trans f0, e1.symm.trans f1, e2.symm.trans f2, e3.symm.trans f3⟩

theorem lay_take {dat oob : List (List UInt8)} {rd : Int → Option (List UInt8 × List UInt8)} {m q : Nat} (h : m ≤ q) : lay G u b g (dat.take q) oob rd m = lay G u b g dat oob rd m := by
  induction m with
  | zero => rfl
  | succ m ih =>
    funext a
    simp only [lay]
    rw [ih (by omega)]
    simp only [List.getD_eq_getElem?_getD, List.getElem?_take_of_lt (show m < q by omega)]

theorem gone_start (u b : Int) (rd : Int → Option (List UInt8 × List UInt8)) : gone G u b 0 0 rd = rd := by
  funext a
  unfold gone
  exact if_neg (fun ⟨g, t, h1, h2, h3, h4, h5⟩ => by omega)

theorem gone_step (gg tt : Int) (h0 : 0 ≤ gg) (h1 : 0 ≤ tt) (h2 : tt < G.s) (rd : Int → Option (List UInt8 × List UInt8)) : gone G u b gg (tt + 1) rd = fun a => if a = adr G u b gg tt then none else gone G u b gg tt rd a := by
  classical
  funext a
  by_cases e : a = adr G u b gg tt
  · rw [if_pos e]
    unfold gone
    exact if_pos ⟨gg, tt, h0, h1, h2, Or.inr ⟨rfl, by omega⟩, e⟩
  · rw [if_neg e]
    unfold gone
    refine ite_iff ⟨?_, ?_⟩ _ _
    · rintro ⟨g, t, a1, a2, a3, a4, a5⟩
      refine ⟨g, t, a1, a2, a3, ?_, a5⟩
      rcases a4 with a4 | ⟨rfl, a4⟩
      · exact Or.inl a4
      · by_cases e2 : t = tt
        · subst e2
          exact absurd a5 e
        · exact Or.inr ⟨rfl, by omega⟩
    · rintro ⟨g, t, a1, a2, a3, a4, a5⟩
      exact ⟨g, t, a1, a2, a3, by omega, a5⟩

theorem gone_line (gg : Int) (rd : Int → Option (List UInt8 × List UInt8)) : gone G u b gg G.s rd = gone G u b (gg + 1) 0 rd := by
  funext a
  unfold gone
  refine ite_iff ⟨?_, ?_⟩ _ _
  · rintro ⟨g, t, a1, a2, a3, a4, a5⟩
    exact ⟨g, t, a1, a2, a3, by omega, a5⟩
  · rintro ⟨g, t, a1, a2, a3, a4, a5⟩
    exact ⟨g, t, a1, a2, a3, by omega, a5⟩
end

end Go.Proofs.Ytnnonkmkdjhacaa.Nand
