/-
  A map of package l2p in memory, and what its small calls do: isMapped, mayBe, Get, Live, isOthers, hasLine.
-/
import Derived.Test.YtpheblblkkclbaaL2pPut2
import Derived.Test.YtpheblblkkclbaaL2pMath
namespace Go.Proofs.Ytpheblblkkclbaa.L2pPkg
open Go.RowKit Go.ChangeShapes L2p
open Nand (Shape)
set_option maxRecDepth 4000

def entL (e : Ent) : List Value := [.int .i64 e.a, .int .i64 e.s, .int .i64 e.k]
def entV (e : Ent) : Value := .agg #[.int .i64 e.a, .int .i64 e.s, .int .i64 e.k]

/-- Where a map lies: its block; the lists of its shards, and the shards. -/
structure Pl where
  g : Nat
  LE : Nat
  aE : Nat → Option Nat
  LI : Nat
  aI : Nat → Option Nat

/-- How many shards so many numbers take. -/
def shn (m : Nat) : Nat := (m + 63) / 64

def Pl.own (n N : Nat) (P : Pl) (b : Nat) : Prop := b = P.g ∨ shOwn P.LE (shn n) P.aE b ∨ shOwn P.LI (shn N) P.aI b

def headCells (G : Shape) (n : Nat) (LE LI : Nat) : Array Value :=
  #[.int .i64 G.c, .int .i64 G.l, .int .i64 G.k, .int .i64 G.p, .int .i64 G.s, .int .i64 (n : Int), .int .i64 (-1), .int .i64 0, .int .i64 0, .slice (some ⟨LE, 0, none⟩) (shn n) (shn n),
    .int .i64 G.N, .int .i64 (-1), .slice (some ⟨LI, 0, none⟩) (shn G.N.toNat) (shn G.N.toNat)]

/-- Block P.g holds the head of a map over the geometry G of n sectors, whose shards hold f1 and f2. -/
structure Mq (G : Shape) (n : Nat) (w : World) (P : Pl) (f1 f2 : Nat → List Value) : Prop where
  head : w.heap[P.g]? = some (.cells (headCells G n P.LE P.LI) 69 (0, 0))
  ent : Sh w P.LE (shn n) P.aE 3 (entL off) f1
  own : Sh w P.LI (shn G.N.toNat) P.aI 1 [.int .i64 (-1)] f2
  apart : ∀ b, shOwn P.LE (shn n) P.aE b → ¬ shOwn P.LI (shn G.N.toNat) P.aI b
  headE : ¬ shOwn P.LE (shn n) P.aE P.g
  headI : ¬ shOwn P.LI (shn G.N.toNat) P.aI P.g

/-- What the shards hold of a map whose entries are st. -/
def entF (n : Nat) (st : St) (i : Nat) : List Value := if i < n then entL (st i) else entL off
def ownF (n : Nat) (st : St) (b : Nat) : List Value := [.int .i64 (who st n b)]

/-- .. holds a map of n sectors, whose entries are st. -/
structure Mp (G : Shape) (n : Nat) (w : World) (P : Pl) (st : St) : Prop where
  q : Mq G n w P (entF n st) (ownF n st)
  inv : Inv st n G.N
  n0 : 0 < n
  n1 : n ≤ 4096

section
variable {G : Shape} {n : Nat} {w w' : World} {P : Pl} {st : St} {f1 f2 : Nat → List Value}

theorem Mq.lt (h : Mq G n w P f1 f2) : ∀ b, P.own n G.N.toNat b → b < w.heap.size := by
  rintro b (rfl | hb | hb)
  · exact (Array.getElem?_eq_some_iff.1 h.head).1
  · exact h.ent.lt b hb
  · exact h.own.lt b hb

theorem Mq.keep (h : Mq G n w P f1 f2) (hk : ∀ b, P.own n G.N.toNat b → w'.heap[b]? = w.heap[b]?) : Mq G n w' P f1 f2 :=
  ⟨(hk _ (.inl rfl)).trans h.head, h.ent.keep fun b hb => hk b (.inr (.inl hb)), h.own.keep fun b hb => hk b (.inr (.inr hb)), h.apart, h.headE, h.headI⟩

theorem Mq.below (h : Mq G n w P f1 f2) (hb : Below w.heap.size w w') : Mq G n w' P f1 f2 := h.keep fun b ho => hb.block b (h.lt b ho)

theorem Mp.lt (h : Mp G n w P st) : ∀ b, P.own n G.N.toNat b → b < w.heap.size := h.q.lt

theorem Mp.keep (h : Mp G n w P st) (hk : ∀ b, P.own n G.N.toNat b → w'.heap[b]? = w.heap[b]?) : Mp G n w' P st := ⟨h.q.keep hk, h.inv, h.n0, h.n1⟩

/-- The entries' shards turned, and the owners' shards. -/
theorem Mq.turnE (h : Mq G n w P f1 f2) {a' : Nat → Option Nat} {f : Nat → List Value} (hs : Sh w' P.LE (shn n) a' 3 (entL off) f) (ht : Turn (shOwn P.LE (shn n) P.aE) (shOwn P.LE (shn n) a') w w') :
    Mq G n w' { P with aE := a' } f f2 ∧ Turn (P.own n G.N.toNat) (Pl.own n G.N.toNat { P with aE := a' }) w w' := by
  have hg : P.g < w.heap.size := h.lt _ (.inl rfl)
  refine ⟨⟨(ht.block _ hg h.headE).trans h.head, hs, h.own.turn ht fun b hb hb2 => h.apart b hb2 hb, fun b hb hb2 => ?_, fun hb => ?_, h.headI⟩, ht.os, ht.tape, ht.output, ht.size, fun b hb hn => ht.block b hb fun ho => hn (.inr (.inl ho)), fun b hb => ?_⟩
  · rcases ht.own b hb with h1 | h1
    · exact h.apart b h1 hb2
    · have := h.own.lt b hb2
      omega
  · rcases ht.own _ hb with h1 | h1
    · exact h.headE h1
    · have : w.heap.size ≤ P.g := h1
      omega
  · rcases hb with hb | hb | hb
    · exact .inl (.inl hb)
    · exact (ht.own b hb).imp (fun h => .inr (.inl h)) id
    · exact .inl (.inr (.inr hb))

theorem Mq.turnI (h : Mq G n w P f1 f2) {a' : Nat → Option Nat} {f : Nat → List Value} (hs : Sh w' P.LI (shn G.N.toNat) a' 1 [.int .i64 (-1)] f) (ht : Turn (shOwn P.LI (shn G.N.toNat) P.aI) (shOwn P.LI (shn G.N.toNat) a') w w') :
    Mq G n w' { P with aI := a' } f1 f ∧ Turn (P.own n G.N.toNat) (Pl.own n G.N.toNat { P with aI := a' }) w w' := by
  have hg : P.g < w.heap.size := h.lt _ (.inl rfl)
  refine ⟨⟨(ht.block _ hg h.headI).trans h.head, h.ent.turn ht fun b hb hb2 => h.apart b hb hb2, hs, fun b hb hb2 => ?_, h.headE, fun hb => ?_⟩, ht.os, ht.tape, ht.output, ht.size, fun b hb hn => ht.block b hb fun ho => hn (.inr (.inr ho)), fun b hb => ?_⟩
  · rcases ht.own b hb2 with h1 | h1
    · exact h.apart b hb h1
    · have := h.ent.lt b hb
      omega
  · rcases ht.own _ hb with h1 | h1
    · exact h.headI h1
    · have : w.heap.size ≤ P.g := h1
      omega
  · rcases hb with hb | hb | hb
    · exact .inl (.inl hb)
    · exact .inl (.inr (.inl hb))
    · exact (ht.own b hb).imp (fun h => .inr (.inr h)) id

theorem Mp.below (h : Mp G n w P st) (hb : Below w.heap.size w w') : Mp G n w' P st := h.keep fun b ho => hb.block b (h.lt b ho)

theorem Mp.turn {O O' : Nat → Prop} (h : Mp G n w P st) (ht : Turn O O' w w') (hd : ∀ b, P.own n G.N.toNat b → ¬ O b) : Mp G n w' P st := h.keep (ht.kept h.lt hd)

theorem Mp.alloc (h : Mp G n w P st) (ob : Obj) : Mp G n (w.alloc ob) P st := h.below ((Below.refl _ _).alloc (Nat.le_refl _) ob)

theorem Mp.drew (h : Mp G n w P st) : Mp G n w.drew P st := h.below (Below.refl _ _).drew

theorem Mq.cells (h : Mq G n w P f1 f2) : w.cell? ⟨P.g, 0, none⟩ = some (.int .i64 G.c) ∧ w.cell? ⟨P.g, 1, none⟩ = some (.int .i64 G.l) ∧ w.cell? ⟨P.g, 2, none⟩ = some (.int .i64 G.k) ∧ w.cell? ⟨P.g, 3, none⟩ = some (.int .i64 G.p) ∧ w.cell? ⟨P.g, 4, none⟩ = some (.int .i64 G.s) := by
  have := h.head
  refine ⟨?_, ?_, ?_, ?_, ?_⟩ <;> simp [World.cell?, this, headCells]

theorem Mq.cE (h : Mq G n w P f1 f2) : w.cell? ⟨P.g, 5, none⟩ = some (.int .i64 (n : Int)) ∧ (w.cell? ⟨P.g, 5 + 1, none⟩ = some (.int .i64 (-1)) ∧ w.cell? ⟨P.g, 5 + 2, none⟩ = some (.int .i64 0) ∧ w.cell? ⟨P.g, 5 + 3, none⟩ = some (.int .i64 0)) ∧ w.cell? ⟨P.g, 5 + 4, none⟩ = some (.slice (some ⟨P.LE, 0, none⟩) (shn n) (shn n)) := by
  have := h.head
  refine ⟨?_, ⟨?_, ?_, ?_⟩, ?_⟩ <;> simp [World.cell?, this, headCells]

theorem Mq.cI (h : Mq G n w P f1 f2) : w.cell? ⟨P.g, 10, none⟩ = some (.int .i64 G.N) ∧ w.cell? ⟨P.g, 10 + 1, none⟩ = some (.int .i64 (-1)) ∧ w.cell? ⟨P.g, 10 + 2, none⟩ = some (.slice (some ⟨P.LI, 0, none⟩) (shn G.N.toNat) (shn G.N.toNat)) := by
  have := h.head
  refine ⟨?_, ?_, ?_⟩ <;> simp [World.cell?, this, headCells]

theorem shn_bd {m i : Nat} (h : i < m) : i < shn m * 64 := by unfold shn; omega

theorem ret_bool {x y : Bool} (h : x = true ↔ y = true) : Ending.returned (.bool x) = .returned (.bool y) := by rw [Bool.eq_iff_iff.2 h]

theorem isMapped_any (e : Ent) (w : World) :
    Calls Try.prog 31 #[entV e] w fun x w' => x = .returned (.bool (decide (e.a ≠ -1))) ∧ Below w.heap.size w w' := by
  have HB := Lib.hid ((Below.refl w.heap.size w).alloc (Nat.le_refl _) (.cells #[.int .i64 e.a, .int .i64 e.s, .int .i64 e.k] 30))
  obtain ⟨a, s, k⟩ := e
  go_enter Try.func31, Try.ntmps31
  unfold entV
  go_wp2
  go_ret
  exact ⟨ret_bool (by simp), HB.out⟩

theorem getE_is (h : Mp G n w P st) (i : Nat) (hi : i < n) :
    Calls Try.prog 30 #[ptr P.g 5, .int .i64 (i : Int)] w fun x w' => x = .returned (entV (st i)) ∧ Below w.heap.size w w' := by
  have hn := h.n1
  obtain ⟨_, h2, h3⟩ := h.q.cE
  have hi2 := shn_bd hi
  have h64 : shn n ≤ 1024 := by unfold shn; omega
  cases ha : P.aE (i / 64) with
  | none =>
    have h0 := h.q.ent.no i hi2 ha
    unfold entF at h0
    rw [if_pos hi] at h0
    have := getE_no P.g 5 P.LE (shn n) P.aE (-1) 0 0 _ i w h2 h3 h.q.ent h64 hi2 ha
    unfold entL off at h0
    injection h0 with ha0 h0
    injection h0 with hs0 h0
    injection h0 with hk0 _
    unfold entV
    rw [ha0, hs0, hk0]
    exact this
  | some d => exact getE_yes P.g 5 P.LE (shn n) d P.aE _ _ _ _ _ i w h3 h.q.ent h64 hi2 ha (by unfold entF; rw [if_pos hi]; rfl)

theorem getI_is (h : Mp G n w P st) (b : Nat) (hb : (b : Int) < G.N) (hN : G.N ≤ 65536) :
    Calls Try.prog 51 #[ptr P.g 10, .int .i64 (b : Int)] w fun x w' => x = .returned (.int .i64 (who st n b)) ∧ w' = w := by
  obtain ⟨_, h2, h3⟩ := h.q.cI
  have hi2 := shn_bd (show b < G.N.toNat by omega)
  have h64 : shn G.N.toNat ≤ 1024 := by unfold shn; omega
  cases ha : P.aI (b / 64) with
  | none =>
    have h0 := h.q.own.no b hi2 ha
    injection h0 with h0 _
    rw [h0]
    exact getI_no P.g 10 P.LI (shn G.N.toNat) P.aI (-1) _ b w h2 h3 h.q.own h64 hi2 ha
  | some d => exact getI_yes P.g 10 P.LI (shn G.N.toNat) d P.aI _ _ _ b w h3 h.q.own h64 hi2 ha rfl

/-- Live: the sector that has an address. -/
def liveV (z : Int) : Value := .tuple #[.int .i64 (if z = -1 then 0 else z), .bool (decide (z ≠ -1))]
def liveAt (st : St) (n : Nat) (N a : Int) : Int := if 0 ≤ a ∧ a < N then who st n a else -1

theorem Live_any (h : Mp G n w P st) (hN : G.N ≤ 65536) (a : Int) :
    Calls Try.prog 21 #[ptr P.g 0, .int .i64 a] w fun x w' => x = .returned (liveV (liveAt st n G.N a)) ∧ w' = w := by
  have HH := Lib.hid (hasI_any P.g 10 G.N a w h.q.cI.1)
  by_cases hin : 0 ≤ a ∧ a < G.N
  · have e1 : (decide (0 ≤ a) && decide (a < G.N)) = true := by simp [hin]
    rw [e1] at HH
    obtain ⟨b, rfl⟩ := Int.eq_ofNat_of_zero_le hin.1
    have HG := Lib.hid (getI_is h b hin.2 hN)
    have e2 : liveAt st n G.N b = who st n b := by unfold liveAt; rw [if_pos hin]
    rw [e2]
    have hbd := who_bd st n b
    generalize who st n b = z at *
    have hn1 := h.n1
    clear h hin e1 e2
    go_enter Try.func21, Try.ntmps21
    go_wp2_with fail
    refine HH.out.mono ?_
    rintro e w2 ⟨rfl, hw⟩; subst w2
    go_wp2_with fail
    refine HG.out.mono ?_
    rintro e w2 ⟨rfl, hw⟩; subst w2
    by_cases hz : z = -1
    · subst hz
      go_wp2
      go_ret2
      exact ⟨rfl, rfl⟩
    · go_wp2
      go_ret2
      exact ⟨by unfold liveV; simp [hz], rfl⟩
  · have e1 : (decide (0 ≤ a) && decide (a < G.N)) = false := by simpa using hin
    rw [e1] at HH
    have e2 : liveAt st n G.N a = -1 := by unfold liveAt; rw [if_neg hin]
    rw [e2]
    clear h hin e1 e2
    go_enter Try.func21, Try.ntmps21
    go_wp2_with fail
    refine HH.out.mono ?_
    rintro e w2 ⟨rfl, hw⟩; subst w2
    go_wp2
    go_ret2
    exact ⟨rfl, rfl⟩

theorem isOthers_any (h : Mp G n w P st) (hN : G.N ≤ 65536) (lba a : Int) (h0 : 0 ≤ a) (h1 : a < G.N) :
    Calls Try.prog 49 #[ptr P.g 0, .int .i64 lba, .int .i64 a] w fun x w' => x = .returned (.bool (decide (who st n a ≠ -1 ∧ who st n a ≠ lba))) ∧ w' = w := by
  have HL := Lib.hid (Live_any h hN a)
  have e2 : liveAt st n G.N a = who st n a := by unfold liveAt; rw [if_pos ⟨h0, h1⟩]
  rw [e2] at HL
  generalize who st n a = z at *
  clear h e2 h0 h1
  by_cases hz : z = -1
  · subst hz
    rw [show liveV (-1) = .tuple #[.int .i64 0, .bool false] from rfl] at HL
    go_enter Try.func49, Try.ntmps49
    go_wp2_with fail
    refine HL.out.mono ?_
    rintro e w2 ⟨rfl, hw⟩; subst w2
    go_wp2
    go_ret
    exact ⟨by simp, rfl⟩
  · rw [show liveV z = .tuple #[.int .i64 z, .bool true] by unfold liveV; simp [hz]] at HL
    have hz2 := Lib.hid hz
    clear hz
    go_enter Try.func49, Try.ntmps49
    go_wp2_with fail
    refine HL.out.mono ?_
    rintro e w2 ⟨rfl, hw⟩; subst w2
    go_wp2
    go_ret
    have hz := hz2.out
    exact ⟨ret_bool (by simp [hz]), rfl⟩

theorem hasLine_any (h : Mp G n w P st) (line : Int) :
    Calls Try.prog 32 #[ptr P.g 0, .int .i64 line] w fun x w' => x = .returned (.bool (decide (0 ≤ line ∧ line < G.k))) ∧ w' = w := by
  have hc := h.q.cells.2.2.1
  clear h
  by_cases h0 : 0 ≤ line
  · go_enter Try.func32, Try.ntmps32
    go_wp2
    go_ret
    exact ⟨by simp [h0], rfl⟩
  · go_enter Try.func32, Try.ntmps32
    go_wp2
    go_ret
    exact ⟨by simp; omega, rfl⟩

theorem mayBe_any (e : Ent) (w : World) :
    Calls Try.prog 48 #[entV e] w fun x w' => x = .returned (.bool (decide (1 ≤ e.s ∧ e.s ≤ 1125899906842624 ∧ 1 ≤ e.k ∧ e.k ≤ 2))) ∧ Below w.heap.size w w' := by
  obtain ⟨a, s, k⟩ := e
  have HB := Lib.hid (fun k : Int => (Below.refl w.heap.size w).alloc (Nat.le_refl _) (.cells #[.int .i64 a, .int .i64 s, .int .i64 k] 30))
  have done : ∀ {x y : Bool} {w'}, x = y → Below w.heap.size w w' → Ending.returned (.bool x) = .returned (.bool y) ∧ Below w.heap.size w w' := fun h hb => ⟨by rw [h], hb⟩
  go_enter Try.func48, Try.ntmps48
  unfold entV
  go_wp2
  all_goals go_ret
  all_goals refine done ?_ (HB.out _)
  all_goals rw [Bool.eq_iff_iff]
  all_goals simp only [Bool.and_eq_true, decide_eq_true_eq, Bool.false_eq_true, false_iff]
  all_goals omega

end
end Go.Proofs.Ytpheblblkkclbaa.L2pPkg
