/-
  A page as the document's own answer builds it: two slices of slices of bytes. The small functions of that answer: Sector.
-/
import Derived.Test.YteonjdigcecceaaPageWalks
import Derived.Test.YteonjdigcecceaaOobRef3
namespace Go.Proofs.Yteonjdigcecceaa.PageRef
open Go.RowKit Go.ChangeShapes Go.WideShapes Page PagePkg
set_option maxRecDepth 4000

/-- A sector and what stands beside it. -/
structure Rz where
  A : Option Addr
  c : Nat
  d : List UInt8
  B : Option Addr
  e : Nat
  o : List UInt8

def Rz.x (r : Rz) : Value := .slice r.A r.d.length r.c
def Rz.y (r : Rz) : Value := .slice r.B r.o.length r.e
def Rz.two (r : Rz) : List UInt8 × List UInt8 := (r.d, r.o)

/-- A block that is old, and neither slice's own. -/
def Good (w : World) (a b : Value) (k : Nat) : Prop := k < w.heap.size ∧ a.ownBlock ≠ some k ∧ b.ownBlock ≠ some k

structure Pz (w : World) (lo : Nat) (a b : Value) (rs : List Rz) : Prop where
  own1 : OwnV w lo 40 a (rs.map Rz.x)
  own2 : OwnV w lo 40 b (rs.map Rz.y)
  fit : ∀ r ∈ rs, r.d.length ≤ r.c ∧ r.c ≤ maxLen ∧ r.o.length ≤ r.e ∧ r.e ≤ maxLen
  lie : ∀ r ∈ rs, Lie w (Good w a b) r.A r.d.length r.d ∧ Lie w (Good w a b) r.B r.o.length r.o
  apart : ∀ k, a.ownBlock = some k → b.ownBlock ≠ some k

section
variable {w w' w1 w2 w3 : World} {lo : Nat} {a b a' b' : Value} {rs : List Rz}

theorem pz_nil (w : World) (lo : Nat) : Pz w lo (.slice none 0 0) (.slice none 0 0) [] := ⟨ownV_nil _ _ _, ownV_nil _ _ _, fun r hr => by simp at hr, fun r hr => by simp at hr, fun k h => by simp [Value.ownBlock] at h⟩

theorem Pz.below (h : Pz w lo a b rs) (hb : Below w.heap.size w w') : Pz w' lo a b rs :=
  ⟨h.own1.below hb, h.own2.below hb, h.fit, fun r hr => ⟨(h.lie r hr).1.keep (fun _ hk => ⟨Nat.lt_of_lt_of_le hk.1 hb.size, hk.2⟩) (fun k hk => hb.block k hk.1), (h.lie r hr).2.keep (fun _ hk => ⟨Nat.lt_of_lt_of_le hk.1 hb.size, hk.2⟩) (fun k hk => hb.block k hk.1)⟩, h.apart⟩

/-- One sector more: an append to each slice, what is made anew between them left as it was. -/
theorem Pz.snoc (h : Pz w lo a b rs) (r : Rz) (hf : r.d.length ≤ r.c ∧ r.c ≤ maxLen ∧ r.o.length ≤ r.e ∧ r.e ≤ maxLen) (hx : Lie w (Good w a b) r.A r.d.length r.d)
    (G1 : w.grownBy w1 a.ownBlock) (O1 : OwnV w1 lo 40 a' (rs.map Rz.x ++ [r.x])) (P1 : ∀ k, a'.ownBlock = some k → a.ownBlock = some k ∨ w.heap.size ≤ k) (HB : Below w1.heap.size w1 w2) (hy : Lie w2 (Good w2 a' b) r.B r.o.length r.o)
    (G2 : w2.grownBy w3 b.ownBlock) (O2 : OwnV w3 lo 40 b' (rs.map Rz.y ++ [r.y])) (P2 : ∀ k, b'.ownBlock = some k → b.ownBlock = some k ∨ w2.heap.size ≤ k) : Pz w3 lo a' b' (rs ++ [r]) := by
  have hs1 := G1.size
  have hs2 := HB.size
  have hs3 := G2.size
  have K2 : OwnV w2 lo 40 b (rs.map Rz.y) := (h.own2.keep fun k hk => G1.block k (h.own2.lt k hk) (fun e => h.apart k e.symm hk)).below HB
  have sep : ∀ k, a'.ownBlock = some k → b.ownBlock ≠ some k := fun k h1 h2 => (P1 k h1).elim (fun h3 => h.apart k h3 h2) (fun h3 => by have := h.own2.lt k h2; omega)
  have st1 : ∀ A n xs, Lie w (Good w a b) A n xs → Lie w2 (Good w2 a' b) A n xs := fun A n xs hl => hl.keep (fun k hk => ⟨by have := hk.1; omega, fun e => (P1 k e).elim hk.2.1 (fun h3 => by have := hk.1; omega), hk.2.2⟩) (fun k hk => (HB.block k (by have := hk.1; omega)).trans (G1.block k hk.1 (fun e => hk.2.1 e.symm)))
  have st2 : ∀ A n xs, Lie w2 (Good w2 a' b) A n xs → Lie w3 (Good w3 a' b') A n xs := fun A n xs hl => hl.keep (fun k hk => ⟨by have := hk.1; omega, hk.2.1, fun e => (P2 k e).elim hk.2.2 (fun h3 => by have := hk.1; omega)⟩) (fun k hk => G2.block k hk.1 (fun e => hk.2.2 e.symm))
  have O1' := O1.below HB
  refine ⟨?_, ?_, fun q hq => ?_, fun q hq => ?_, fun k h1 h2 => ?_⟩
  · rw [List.map_append]
    exact O1'.keep fun k hk => G2.block k (O1'.lt k hk) (fun e => sep k hk e.symm)
  · rw [List.map_append]
    exact O2
  · rcases List.mem_append.1 hq with hq | hq
    · exact h.fit q hq
    · rw [List.mem_singleton.1 hq]
      exact hf
  · rcases List.mem_append.1 hq with hq | hq
    · exact ⟨st2 _ _ _ (st1 _ _ _ (h.lie q hq).1), st2 _ _ _ (st1 _ _ _ (h.lie q hq).2)⟩
    · rw [List.mem_singleton.1 hq]
      exact ⟨st2 _ _ _ (st1 _ _ _ hx), st2 _ _ _ hy⟩
  · exact (P2 k h2).elim (fun h3 => sep k h1 h3) (fun h3 => by have := O1'.lt k h1; omega)

theorem Pz.reads (h : Pz w lo a b rs) : ∃ A c A' c', a = .slice A rs.length c ∧ b = .slice A' rs.length c' ∧ rs.length ≤ c ∧ rs.length ≤ c' ∧ c ≤ maxLen ∧ c' ≤ maxLen ∧ Bys w w.heap.size A rs.length (rs.map Rz.d) ∧ Bys w w.heap.size A' rs.length (rs.map Rz.o) := by
  obtain ⟨A, c, e1, e2, e3, e4⟩ := h.own1.reads
  obtain ⟨A', c', f1, f2, f3, f4⟩ := h.own2.reads
  rw [List.length_map] at e1 e2 f1 f2
  refine ⟨A, c, A', c', e1, f1, e2, f2, e3, f3, ⟨by simp, fun i xs hi => ?_⟩, ⟨by simp, fun i xs hi => ?_⟩⟩
  · rw [List.getElem?_map, Option.map_eq_some_iff] at hi
    obtain ⟨r, hr, rfl⟩ := hi
    have hm := List.mem_of_getElem? hr
    obtain ⟨k, _, k2, k3, k4⟩ := e4 i r.x (by rw [List.getElem?_map, hr]; rfl)
    exact ⟨k, 0, r.A, r.c, by assumption, k3, by rw [Nat.zero_add]; exact k4, (h.fit r hm).1, (h.fit r hm).2.1, (h.lie r hm).1.bytes (fun b hb => hb.1)⟩
  · rw [List.getElem?_map, Option.map_eq_some_iff] at hi
    obtain ⟨r, hr, rfl⟩ := hi
    have hm := List.mem_of_getElem? hr
    obtain ⟨k, _, k2, k3, k4⟩ := f4 i r.y (by rw [List.getElem?_map, hr]; rfl)
    exact ⟨k, 0, r.B, r.e, by assumption, k3, by rw [Nat.zero_add]; exact k4, (h.fit r hm).2.2.1, (h.fit r hm).2.2.2, (h.lie r hm).2.bytes (fun b hb => hb.1)⟩
end

/-- Bytes of the call's own, younger than both slices. -/
theorem good_own {w : World} {B : Nat} {e8 : TypeId} {x a b : Value} {xs : List UInt8} (h : Own w B e8 x xs) (ha : ∀ k, a.ownBlock = some k → k < B) (hb : ∀ k, b.ownBlock = some k → k < B) : ∃ A c, x = .slice A xs.length c ∧ (xs.length ≤ c ∧ c ≤ maxLen) ∧ Lie w (Good w a b) A xs.length xs := by
  obtain ⟨A, c, h1, h2, h3, h4⟩ := Lie.of_own h
  exact ⟨A, c, h1, ⟨h2, h3⟩, h4.keep (fun k hk => ⟨hk.2, fun e => by have := ha k e; omega, fun e => by have := hb k e; omega⟩) (fun _ _ => rfl)⟩

/-- Bytes that are older than both slices. -/
theorem good_old {w : World} {B : Nat} {a b : Value} {A : Option Addr} {n : Nat} {xs : List UInt8} (h : Bytes w B A n xs) (hB : B ≤ w.heap.size) (ha : ∀ k, a.ownBlock = some k → B ≤ k) (hb : ∀ k, b.ownBlock = some k → B ≤ k) : Lie w (Good w a b) A n xs :=
  ⟨h.1, fun i hi => by
    obtain ⟨k, off, h1, h2, h3⟩ := h.2 i hi
    exact ⟨k, off, h1, ⟨by omega, fun e => by have := ha k e; omega, fun e => by have := hb k e; omega⟩, h3⟩⟩

/-- What it keeps of a slot. -/
def rsect (x : Sl) : List UInt8 := if x.k = 2 then zeros else x.d

theorem rsect_ok {x : Sl} (h : x.pc.Ok) : rsect x = sect x := by
  rcases Sl.kind h with hk | hk
  · rw [sect_1 hk]
    exact if_neg (by omega)
  · rw [sect_2 hk]
    exact if_pos hk

/-- A slot that may be packed, and is of the one kind or the other, is right. -/
theorem rsect_all {x : Sl} : x.pc.Ok ↔ (Oob.Ok x.k x.l x.s ∧ (rsect x).length = 16) ∧ x.k ≤ 2 := by
  constructor
  · intro h
    refine ⟨⟨h.1, by rw [rsect_ok h]; exact h.2⟩, ?_⟩
    rcases Sl.kind h with hk | hk <;> omega
  · rintro ⟨⟨h1, h2⟩, h3⟩
    refine ⟨h1, ?_⟩
    have hk : x.k = 1 ∨ x.k = 2 := by have := h1.1; omega
    show (sect x).length = 16
    rcases hk with hk | hk
    · rw [sect_1 hk]
      unfold rsect at h2
      rw [if_neg (by omega)] at h2
      exact h2
    · rw [sect_2 hk]
      rfl

theorem rSector_any (x : Sl) (Ap : Option Addr) (cp B : Nat) (w : World) (hB : B ≤ w.heap.size) (hl : x.d.length ≤ 100000000000000) (hr : Bytes w B Ap x.d.length x.d) :
    Calls Try.prog 26 #[slV x Ap cp] w fun e w' => ∃ v, e = .returned v ∧ Own w' w.heap.size 5 v (rsect x) ∧ Below w.heap.size w w' := by
  obtain ⟨k, l, s, d, f⟩ := x
  dsimp only at hr hl
  have hb := (Below.refl w.heap.size w).alloc (Nat.le_refl _) (.cells #[.int .i64 k, .int .i64 l, .int .i64 s, .slice Ap d.length cp, .int .i64 f] 42)
  have HR := Lib.hid (bytes_more (bytes_keep hr (hb.mono hB)) (Nat.le_trans hB hb.size))
  have HB := Lib.hid hb
  have hmk := fun w => made_zeros w
  clear hr hb
  by_cases h2 : k = 2
  · have hs : rsect ⟨k, l, s, d, f⟩ = zeros := if_pos h2
    rw [hs]
    clear hs
    subst h2
    have HO := Lib.hid (own_zeros (w.alloc (.cells #[.int .i64 2, .int .i64 l, .int .i64 s, .slice Ap d.length cp, .int .i64 f] 42)))
    have HB2 := Lib.hid (HB.out.alloc HB.out.size (.cells (zeros.map cellOf).toArray 5))
    have HS := Lib.hid HB.out.size
    go_enter Try.func26, Try.ntmps26
    go_wp2
    go_ret
    refine ⟨_, rfl, ?_, HB2.out⟩
    have h := HO.out
    rw [World.size_alloc] at h
    exact h.le (Nat.le_succ _)
  · have hs : rsect ⟨k, l, s, d, f⟩ = d := if_neg h2
    rw [hs]
    have h2' : (k == 2) = false := by simpa using h2
    clear hs h2 hmk
    have HC := Lib.hid ((Below.refl _ _).alloc (Nat.le_refl (w.alloc (.cells #[.int .i64 k, .int .i64 l, .int .i64 s, .slice Ap d.length cp, .int .i64 f] 42)).heap.size) (.cells #[] 5))
    have HO := Lib.hid (own_new (w.alloc (.cells #[.int .i64 k, .int .i64 l, .int .i64 s, .slice Ap d.length cp, .int .i64 f] 42)) 5 [] _ rfl (Nat.zero_le _))
    have HB2 := Lib.hid (HB.out.alloc HB.out.size (.cells #[] 5))
    have HLE : Hid (([] : List UInt8).length + d.length ≤ 140737488355328) := Lib.hid (by show 0 + d.length ≤ _; omega)
    go_enter Try.func26, Try.ntmps26
    go_wp2_with (at_builtin; refine wpList_append_bytes _ rfl _ _ _ rfl (w.heap.size + 1) 5 Try.underlying40 info8 _ [] rfl (by have h := HO.out; rw [World.size_alloc] at h; exact h) _ Ap d.length cp d rfl (bytes_keep HR.out HC.out) HLE.out (by simp) ?_)
    intro v2 w2 ho2 hg2 _
    have HE := Lib.hid (And.intro (ho2.le (Nat.le_succ _)) (HB2.out.grown hg2 (by simp; omega) (fun k hk => by simp [Value.ownBlock] at hk; omega)))
    clear ho2 hg2
    go_wp2
    go_ret
    exact ⟨_, rfl, HE.out.1, HE.out.2⟩

end Go.Proofs.Yteonjdigcecceaa.PageRef
