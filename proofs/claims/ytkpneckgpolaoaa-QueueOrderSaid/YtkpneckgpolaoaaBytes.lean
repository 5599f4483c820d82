/-
  Slices of bytes in memory: one that reads as a list of bytes (nil let in), one that the call itself has made, append onto such a one; an argument that is a slice of bytes, opened. Nothing of the program's code is named here.
-/
import Derived.WalkKit
import Derived.WalkSpells
import Derived.WalkLawsBesides
import Derived.ProofKit
import Derived.Lib.Hide
import Derived.Maps.AppendAt
namespace Go.Proofs.Ytkpneckgpolaoaa
open Go.RowKit Go.ChangeShapes Go.WideShapes

def u8 (x : Int) : UInt8 := UInt8.ofNat x.toNat

theorem ret_int {k : IntKind} {a b : Int} (h : a = b) : Ending.returned (.int k a) = .returned (.int k b) := by rw [h]
theorem val_int {k : IntKind} {a b : Int} (h : a = b) : Value.int k a = .int k b := by rw [h]

/-- A slice that reads as a list of bytes and lies below block B (nil let in). -/
def Bytes (w : World) (B : Nat) (A : Option Addr) (n : Nat) (xs : List UInt8) : Prop :=
  xs.length = n ∧ ∀ i (h : i < xs.length), ∃ b off, A = some ⟨b, off, none⟩ ∧ b < B ∧ w.cell? ⟨b, off + i, none⟩ = some (.int .u8 ((xs[i]).toNat : Int))

theorem u8_toNat (x : UInt8) : u8 (x.toNat : Int) = x := by
  unfold u8
  simp

theorem Bytes.at_ {w : World} {B : Nat} {A : Option Addr} {n : Nat} {xs : List UInt8} (h : Bytes w B A n xs) {k : Nat} (hk : k < n) :
    ∃ (b off : Nat) (x : UInt8), A = some ⟨b, off, none⟩ ∧ b < B ∧ xs[k]? = some x ∧ w.cell? ⟨b, off + k, none⟩ = some (.int .u8 (x.toNat : Int)) := by
  have hl : k < xs.length := by rw [h.1]; exact hk
  obtain ⟨b, off, e, hb, hc⟩ := h.2 k hl
  exact ⟨b, off, xs[k], e, hb, List.getElem?_eq_getElem hl, hc⟩

theorem u8_bd (x : UInt8) : 0 ≤ (x.toNat : Int) ∧ (x.toNat : Int) < 256 := by
  have := x.toNat_lt
  omega

theorem bytes_new (w : World) (xs : List UInt8) (cs : Array Value) (e : TypeId) (fr : Nat × Nat) (h : cs = (xs.map fun x => Value.int .u8 (x.toNat : Int)).toArray) :
    Bytes (w.alloc (.cells cs e fr)) (w.heap.size + 1) (some ⟨w.heap.size, 0, none⟩) xs.length xs := by
  subst h
  refine ⟨rfl, fun i hi => ⟨w.heap.size, 0, rfl, Nat.lt_succ_self _, ?_⟩⟩
  rw [World.cell?_alloc_mark]
  simp [hi]

theorem bytes_keep {w w' : World} {B : Nat} {A : Option Addr} {n : Nat} {xs : List UInt8} (h : Bytes w B A n xs) (hk : Below B w w') : Bytes w' B A n xs :=
  ⟨h.1, fun i hi => by
    obtain ⟨b, off, e, hb, hc⟩ := h.2 i hi
    exact ⟨b, off, e, hb, (hk.cell (p := ⟨b, off + i, none⟩) hb).trans hc⟩⟩

theorem bytes_more {w : World} {B B' : Nat} {A : Option Addr} {n : Nat} {xs : List UInt8} (h : Bytes w B A n xs) (hB : B ≤ B') : Bytes w B' A n xs :=
  ⟨h.1, fun i hi => by
    obtain ⟨b, off, e, hb, hc⟩ := h.2 i hi
    exact ⟨b, off, e, by omega, hc⟩⟩

section
variable {H : Type} {enc : TypeId × Value → H}
theorem cell_lt {w : World} {a : Addr} {v : Value} (h : w.cell? a = some v) : a.block < w.heap.size := by
  rcases Nat.lt_or_ge a.block w.heap.size with h' | h'
  · exact h'
  · simp [World.cell?, Array.getElem?_eq_none h'] at h

theorem u8_of {z : Int} (h : (Lit.int .u8 z).wf = true) : (((u8 z).toNat : Nat) : Int) = z := by
  have := (show 0 ≤ z ∧ z ≤ 255 by simpa [Lit.wf, IntKind.min, IntKind.max, IntKind.signed, IntKind.bits] using h)
  unfold u8
  simp
  omega

/-- A slice of bytes that came in. -/
theorem open_bytes {P : Program} {W : World} {base : Nat} {t e : TypeId} {v : Value} {d : DataW H} {ps : List MemPlace} (ht : P.underlying t = some (.slice e)) (he : P.underlying e = some (.int .u8)) (hc : P.cellsOf e = 1)
    (hv : Value.okWide P W .any base t v) (h : DataW.Trod enc P W 0 (fun _ => true) true t v d ps) :
    ∃ A n c xs, v = .slice A n c ∧ n ≤ c ∧ c ≤ maxLen ∧ Bytes W W.heap.size A n xs := by
  obtain ⟨a0, len, cap, rfl⟩ := okWide_slice ht hv
  obtain ⟨fuel, hf⟩ := h
  rcases open_ints ht he hc hf with ⟨hcs, _⟩ | ⟨a, len', cap', zs, hcs, _, hl, hm, hz, _, hcell, hwz⟩
  · simp [Value.cells] at hcs
    obtain ⟨rfl, rfl, rfl⟩ := hcs
    exact ⟨_, _, _, [], rfl, Nat.le_refl _, Nat.zero_le _, rfl, fun i hi => absurd hi (by simp)⟩
  · simp [Value.cells] at hcs
    obtain ⟨rfl, rfl, rfl⟩ := hcs
    simp only [if_true] at hz
    refine ⟨_, _, _, (zs.take len).map u8, rfl, hl, hm, by simp; omega, fun i hi => ?_⟩
    simp only [List.length_map, List.length_take] at hi
    have hi2 : i < zs.length := by omega
    have hci := hcell i hi2
    obtain ⟨b, off, spot⟩ := a
    have hspot : spot = none := by simpa [Addr.add] using World.cell?_spot (hcell 0 (by omega))
    subst hspot
    rw [add_plain] at hci
    refine ⟨b, off, rfl, cell_lt hci, ?_⟩
    rw [hci]
    have hg : zs.getD i 0 = zs[i] := by simp [List.getD, hi2]
    have hw := hwz zs[i] (List.getElem_mem hi2)
    rw [hg]
    simp only [List.getElem_map, List.getElem_take]
    rw [u8_of hw]
end

/-! ### A slice of bytes that the call itself has made -/

def cellOf (x : UInt8) : Value := .int .u8 (x.toNat : Int)

/-- The slice v, of the element type e (a byte), is the call's own, from block base on, and holds xs. -/
def Own (w : World) (base : Nat) (e : TypeId) (v : Value) (xs : List UInt8) : Prop := w.ownsRow base e 1 v xs.length (xs.map cellOf)

theorem own_new (w : World) (e : TypeId) (xs : List UInt8) (cs : Array Value) (h : cs = (xs.map cellOf).toArray) (hl : xs.length ≤ maxLen) :
    Own (w.alloc (.cells cs e)) w.heap.size e (.slice (some ⟨w.heap.size, 0, none⟩) xs.length xs.length) xs := by
  subst h
  refine ⟨by simp, .inr ⟨w.heap.size, xs.length, _, rfl, Nat.le_refl _, heap_alloc_new w _, Nat.le_refl _, hl, by simp, ?_⟩⟩
  exact List.take_of_length_le (by simp)

theorem Own.le {w : World} {base base' : Nat} {e : TypeId} {v : Value} {xs : List UInt8} (h : Own w base e v xs) (hb : base' ≤ base) : Own w base' e v xs :=
  ⟨h.1, h.2.elim Or.inl (fun ⟨g, cap, cur, hv, hg, r⟩ => Or.inr ⟨g, cap, cur, hv, Nat.le_trans hb hg, r⟩)⟩

/-- What an own slice is: its form, and that it reads as its list. -/
theorem Own.reads {w : World} {base : Nat} {e : TypeId} {v : Value} {xs : List UInt8} (h : Own w base e v xs) :
    ∃ A c, v = .slice A xs.length c ∧ Bytes w w.heap.size A xs.length xs := by
  rcases h.2 with ⟨rfl, h0⟩ | ⟨g, cap, cur, rfl, _, hg, hnc, _, hcs, ht⟩
  · exact ⟨none, 0, by rw [h0], rfl, fun i hi => absurd hi (by omega)⟩
  · refine ⟨_, _, rfl, rfl, fun i hi => ⟨g, 0, rfl, ?_, ?_⟩⟩
    · exact (Array.getElem?_eq_some_iff.1 hg).1
    · have e1 : (cur.toList.take (xs.length * 1))[i]? = some (cellOf xs[i]) := by rw [ht]; simp [hi]
      rw [List.getElem?_take, if_pos (by omega), Array.getElem?_toList] at e1
      simp only [World.cell?, hg]
      rw [Nat.zero_add, e1]
      rfl

theorem Own.len_le {w : World} {base : Nat} {e : TypeId} {v : Value} {xs : List UInt8} (h : Own w base e v xs) : xs.length ≤ maxLen := by
  rcases h.2 with ⟨_, h0⟩ | ⟨g, cap, cur, _, _, _, hnc, hcm, _, _⟩
  · rw [h0]; exact Nat.zero_le _
  · exact Nat.le_trans hnc hcm

theorem Own.block {w : World} {base : Nat} {e : TypeId} {v : Value} {xs : List UInt8} (h : Own w base e v xs) : ∀ k, v.ownBlock = some k → base ≤ k := by
  intro k hk
  rcases h.2 with ⟨rfl, _⟩ | ⟨g, cap, cur, rfl, hg, _⟩
  · simp [Value.ownBlock] at hk
  · simp [Value.ownBlock] at hk
    omega

/-- Where the block of an own slice has not turned, it is what it was. -/
theorem Own.keep {w w' : World} {base : Nat} {e : TypeId} {v : Value} {xs : List UInt8} (h : Own w base e v xs) (hk : ∀ k, v.ownBlock = some k → w'.heap[k]? = w.heap[k]?) : Own w' base e v xs := by
  refine ⟨h.1, ?_⟩
  rcases h.2 with h0 | ⟨g, cap, cur, rfl, hg, hh, r⟩
  · exact .inl h0
  · exact .inr ⟨g, cap, cur, rfl, hg, (hk g rfl).trans hh, r⟩

theorem Own.lt {w : World} {base : Nat} {e : TypeId} {v : Value} {xs : List UInt8} (h : Own w base e v xs) : ∀ k, v.ownBlock = some k → k < w.heap.size := by
  intro k hk
  rcases h.2 with ⟨rfl, _⟩ | ⟨g, cap, cur, rfl, _, hh, _⟩
  · simp [Value.ownBlock] at hk
  · simp [Value.ownBlock] at hk
    subst hk
    exact (Array.getElem?_eq_some_iff.1 hh).1

theorem Own.alloc {w : World} {base : Nat} {e : TypeId} {v : Value} {xs : List UInt8} (h : Own w base e v xs) (o : Obj) : Own (w.alloc o) base e v xs :=
  h.keep fun k hk => Below.heap_alloc w o k (h.lt k hk)

theorem Own.form {w : World} {base : Nat} {e : TypeId} {v : Value} {xs : List UInt8} (h : Own w base e v xs) (h0 : 0 < xs.length) : ∃ g cap, v = .slice (some ⟨g, 0, none⟩) xs.length cap ∧ base ≤ g ∧ xs.length ≤ cap ∧ cap ≤ maxLen := by
  rcases h.2 with ⟨_, hz⟩ | ⟨g, cap, cur, rfl, hg, _, hnc, hcm, _⟩
  · omega
  · exact ⟨g, cap, rfl, hg, hnc, hcm⟩

theorem Own.cell {w : World} {base : Nat} {e : TypeId} {g n cap : Nat} {xs : List UInt8} (h : Own w base e (.slice (some ⟨g, 0, none⟩) n cap) xs) {i : Nat} (hi : i < xs.length) :
    w.cell? ⟨g, i, none⟩ = some (cellOf xs[i]) ∧ w.frozen? ⟨g, i, none⟩ = false := by
  rcases h.2 with ⟨hv, _⟩ | ⟨g', cap', cur, hv, _, hg, hnc, _, hcs, ht⟩
  · cases hv
  · injection hv with h1
    injection h1 with h1
    injection h1 with h1
    subst h1
    have e1 : (cur.toList.take (xs.length * 1))[i]? = some (cellOf xs[i]) := by rw [ht]; simp [hi]
    rw [List.getElem?_take, if_pos (by omega), Array.getElem?_toList] at e1
    exact ⟨by simp only [World.cell?, hg]; exact e1, by simp [World.frozen?, hg]⟩

/-- A store into an own slice. -/
theorem Own.set {w : World} {base : Nat} {e : TypeId} {g n cap : Nat} {xs : List UInt8} (h : Own w base e (.slice (some ⟨g, 0, none⟩) n cap) xs) (i : Nat) (y : UInt8) :
    Own (w.setCell ⟨g, i, none⟩ (cellOf y)) base e (.slice (some ⟨g, 0, none⟩) n cap) (xs.set i y) := by
  rcases h.2 with ⟨hv, _⟩ | ⟨g', cap', cur, hv, hb, hg, hnc, hcm, hcs, ht⟩
  · cases hv
  · injection hv with h1 h2 h3
    injection h1 with h1
    injection h1 with h1
    subst h1 h2 h3
    refine ⟨by simp, .inr ⟨g, cap, cur.setIfInBounds i (cellOf y), by simp, hb, ?_, by simpa using hnc, hcm, by simpa using hcs, ?_⟩⟩
    · simp [World.setCell, Array.getElem?_modify, hg]
    · have e2 : (cur.setIfInBounds i (cellOf y)).toList = cur.toList.set i (cellOf y) := by simp
      rw [e2, List.length_set, List.take_set, ht, List.map_set]

/-- The closed fact that an append of bytes wants of the element's type. -/
def byteInfo (P : Program) (e : TypeId) : Prop := ∃ i, P.info? e = some i ∧ i.zero = some (.int .u8 0) ∧ i.size = 1 ∧ i.bytes = 1

theorem cells_of {w : World} {B : Nat} {a : Addr} {n : Nat} {xs : List UInt8} (h : Bytes w B (some a) n xs) : ∀ j u, (xs.map cellOf)[j]? = some u → w.cell? (a.add j) = some u := by
  intro j u hu
  rw [List.getElem?_map] at hu
  obtain ⟨x, hx, rfl⟩ := Option.map_eq_some_iff.1 hu
  obtain ⟨hl, rfl⟩ := List.getElem?_eq_some_iff.1 hx
  obtain ⟨b, off, e, _, hc⟩ := h.2 j hl
  injection e with e
  subst e
  rw [add_plain]
  exact hc

section
variable {P : Program} (w : World)

/-- append(own, s...), s any slice of bytes, nil and empty let in. -/
theorem run_append_bytes (base : Nat) (t ty e : TypeId) (ht : P.underlying t = some (.slice e)) (hi : byteInfo P e) (v : Value) (xs : List UInt8) (hown : Own w base e v xs)
    (B : Nat) (A : Option Addr) (m c : Nat) (ys : List UInt8) (hr : Bytes w B A m ys) (hlen : xs.length + m ≤ 140737488355328) (hbase : base ≤ w.heap.size) :
    ∃ v' w', (Builtin.append_ #[t, t] ty #[v, .slice A m c]).run P w = .ok v' w' ∧ Own w' base e v' (xs ++ ys) ∧ w.grownBy w' v.ownBlock ∧ (v'.ownBlock = v.ownBlock ∨ v'.ownBlock = some w.heap.size) := by
  obtain ⟨i, hi, hz, hsz, hby⟩ := hi
  have hmx : 140737488355328 ≤ maxLen := by decide
  have hmap : (xs ++ ys).map cellOf = xs.map cellOf ++ ys.map cellOf := List.map_append
  rcases A with _ | ad
  · have hy : ys = [] := by
      rcases ys with _ | ⟨y, ys⟩
      · rfl
      · obtain ⟨b, off, h, _⟩ := hr.2 0 (by simp)
        cases h
    subst hy
    have hm : m = 0 := hr.1.symm
    subst hm
    refine ⟨v, w, ?_, by simpa using hown, World.grownBy.refl w _, .inl rfl⟩
    rcases hown.2 with ⟨rfl, h0⟩ | ⟨g, cap, cur, rfl, _, _, hnc, _⟩
    · simp [Builtin.append_, run_underlying ht, sizeOf, typeInfo, hi, Builtin.lenOf, Builtin.firstCells]
    · simp [Builtin.append_, run_underlying ht, sizeOf, typeInfo, hi, Builtin.lenOf, Builtin.firstCells, hnc, storeCells]
  · obtain ⟨v', w', hrun, h2, h3, _, h5⟩ := run_append_own_at (P := P) w base t ty e i (.int .u8 0) 1 1 ht hi hz hsz hby rfl (by omega) v xs.length (xs.map cellOf) hown ad m c (ys.map cellOf) (by simp [hr.1]) (cells_of hr)
      (fun u hu => by obtain ⟨x, _, rfl⟩ := List.mem_map.1 hu; rfl) (by omega) (by omega) hbase
    refine ⟨v', w', hrun, ?_, h3, h5⟩
    unfold Own
    rw [hmap, List.length_append, hr.1]
    exact h2

theorem wp_append_bytes {o : Oper} {a : Act} {K : Act → World → Prop} {Q : Exit → Act → World → Prop} (s x : Operand) (t : TypeId)
    (ho : o.op = .call { callee := .builtin .append, args := #[s, x], argTypes := #[t, t] })
    (base : Nat) (e : TypeId) (ht : P.underlying t = some (.slice e)) (hi : byteInfo P e) (v : Value) (xs : List UInt8) (hs : a.eval s = v) (hown : Own w base e v xs)
    (B : Nat) (A : Option Addr) (m c : Nat) (ys : List UInt8) (hx : a.eval x = .slice A m c) (hr : Bytes w B A m ys) (hlen : xs.length + m ≤ 140737488355328) (hbase : base ≤ w.heap.size)
    (h : ∀ v' w', Own w' base e v' (xs ++ ys) → w.grownBy w' v.ownBlock → (v'.ownBlock = v.ownBlock ∨ v'.ownBlock = some w.heap.size) → K (a.put o.dst v') w') : o.wp P a w K Q := by
  obtain ⟨v', w', hrun, h2, h3, h4⟩ := run_append_bytes (P := P) w base t o.type e ht hi v xs hown B A m c ys hr hlen hbase
  unfold Oper.wp execOp
  simp only [ho, resolve, invoke, builtin, Sem.run_bind, Sem.run_pure, Result.andThen_ok, List.map_toArray, List.map_cons, List.map_nil, hs, hx, hrun]
  exact h v' w' h2 h3 h4

theorem wpList_append_bytes {ops : Array Oper} {rest : List Oper} {o : Oper} {a : Act} {Q : Exit → Act → World → Prop} (hgd : o.guard = none) (s x : Operand) (t : TypeId)
    (ho : o.op = .call { callee := .builtin .append, args := #[s, x], argTypes := #[t, t] })
    (base : Nat) (e : TypeId) (ht : P.underlying t = some (.slice e)) (hi : byteInfo P e) (v : Value) (xs : List UInt8) (hs : a.eval s = v) (hown : Own w base e v xs)
    (B : Nat) (A : Option Addr) (m c : Nat) (ys : List UInt8) (hx : a.eval x = .slice A m c) (hr : Bytes w B A m ys) (hlen : xs.length + m ≤ 140737488355328) (hbase : base ≤ w.heap.size)
    (h : ∀ v' w', Own w' base e v' (xs ++ ys) → w.grownBy w' v.ownBlock → (v'.ownBlock = v.ownBlock ∨ v'.ownBlock = some w.heap.size) → wpList P ops Q rest (a.put o.dst v') w') : wpList P ops Q (o :: rest) a w :=
  wpList_plain hgd fun _ hK => wp_append_bytes w s x t ho base e ht hi v xs hs hown B A m c ys hx hr hlen hbase fun v' w' h2 h3 h4 => hK _ _ (h v' w' h2 h3 h4)

/-- The same as one step of a region that draws its order. -/
theorem step_append_bytes {ops : Array Oper} {o : Oper} {a : Act} {K : Act → World → Prop} {Q : Exit → Act → World → Prop} {E : Prop} (hgd : o.guard = none) (s x : Operand) (t : TypeId)
    (ho : o.op = .call { callee := .builtin .append, args := #[s, x], argTypes := #[t, t] })
    (base : Nat) (e : TypeId) (ht : P.underlying t = some (.slice e)) (hi : byteInfo P e) (v : Value) (xs : List UInt8) (hs : a.eval s = v) (hown : Own w base e v xs)
    (B : Nat) (A : Option Addr) (m c : Nat) (ys : List UInt8) (hx : a.eval x = .slice A m c) (hr : Bytes w B A m ys) (hlen : xs.length + m ≤ 140737488355328) (hbase : base ≤ w.heap.size)
    (h : ∀ v' w', Own w' base e v' (xs ++ ys) → w.grownBy w' v.ownBlock → (v'.ownBlock = v.ownBlock ∨ v'.ownBlock = some w.heap.size) → K (a.put o.dst v') w') :
    if Region.wanted o (yielded ops a.tmps) = true then Oper.wp P o a w K Q else E := by
  rw [if_pos (by simp [Region.wanted, hgd])]
  exact wp_append_bytes w s x t ho base e ht hi v xs hs hown B A m c ys hx hr hlen hbase h
end
end Go.Proofs.Ytkpneckgpolaoaa
