/-
  What lies in memory at layer 15: slices of slices of bytes and of slots that came in, rows with bytes that the call gathers, a page that was built.
-/
import Derived.Test.YteonjdigcecceaaPageMath
import Derived.Test.YteonjdigcecceaaVals
import Derived.Test.YteonjdigcecceaaRowsMore
import Derived.Test.YteonjdigcecceaaThree
import Derived.Test.YteonjdigcecceaaTurn
import Derived.Test.YteonjdigcecceaaChecked
namespace Go.Proofs.Yteonjdigcecceaa.PagePkg
open Go.RowKit Page
set_option maxRecDepth 4000

/-! ### Slices of slices of bytes -/

/-- A slice of n slices of bytes, in blocks below B. -/
structure Bys (w : World) (B : Nat) (A : Option Addr) (n : Nat) (ls : List (List UInt8)) : Prop where
  len : ls.length = n
  at_ : ∀ (i : Nat) xs, ls[i]? = some xs → ∃ b off Ap cp, A = some ⟨b, off, none⟩ ∧ b < B ∧ w.cell? ⟨b, off + i, none⟩ = some (.slice Ap xs.length cp) ∧ xs.length ≤ cp ∧ cp ≤ maxLen ∧ Bytes w B Ap xs.length xs

section
variable {w w' : World} {B B' : Nat} {A : Option Addr} {n : Nat} {ls : List (List UInt8)}

theorem Bys.keep (h : Bys w B A n ls) (hb : Below B w w') : Bys w' B A n ls := ⟨h.len, fun i xs hi => by
  obtain ⟨b, off, Ap, cp, h1, h2, h3, h4, h5, h6⟩ := h.at_ i xs hi
  exact ⟨b, off, Ap, cp, h1, h2, (hb.cell (p := ⟨b, off + i, none⟩) h2).trans h3, h4, h5, bytes_keep h6 hb⟩⟩

theorem Bys.more (h : Bys w B A n ls) (hB : B ≤ B') : Bys w B' A n ls := ⟨h.len, fun i xs hi => by
  obtain ⟨b, off, Ap, cp, h1, h2, h3, h4, h5, h6⟩ := h.at_ i xs hi
  exact ⟨b, off, Ap, cp, h1, by omega, h3, h4, h5, bytes_more h6 hB⟩⟩

theorem Bys.below (h : Bys w w.heap.size A n ls) (hb : Below w.heap.size w w') : Bys w' w'.heap.size A n ls := (h.keep hb).more hb.size

/-- What stands behind the first so many. -/
theorem Bys.drop (h : Bys w B A n ls) {b off : Nat} (hA : A = some ⟨b, off, none⟩) (k : Nat) : Bys w B (some ⟨b, off + k, none⟩) (n - k) (ls.drop k) := ⟨by rw [List.length_drop, h.len], fun i xs hi => by
  rw [List.getElem?_drop] at hi
  obtain ⟨b', off', Ap, cp, h1, h2, h3, h4, h5, h6⟩ := h.at_ (k + i) xs hi
  rw [hA] at h1
  injection h1 with h1
  injection h1 with e1 e2
  subst e1 e2
  exact ⟨b, off + k, Ap, cp, rfl, h2, by rw [Nat.add_assoc]; exact h3, h4, h5, h6⟩⟩
end

/-! ### Slots -/

/-- A slot's five cells. -/
structure SlAt (w : World) (B : Nat) (b o : Nat) (x : Sl) (Ap : Option Addr) (cp : Nat) : Prop where
  c0 : w.cell? ⟨b, o, none⟩ = some (.int .i64 x.k)
  c1 : w.cell? ⟨b, o + 1, none⟩ = some (.int .i64 x.l)
  c2 : w.cell? ⟨b, o + 2, none⟩ = some (.int .i64 x.s)
  c3 : w.cell? ⟨b, o + 3, none⟩ = some (.slice Ap x.d.length cp)
  c4 : w.cell? ⟨b, o + 4, none⟩ = some (.int .i64 x.f)
  lt : b < B
  fit : x.d.length ≤ cp
  top : cp ≤ maxLen
  data : Bytes w B Ap x.d.length x.d

abbrev slV (x : Sl) (Ap : Option Addr) (cp : Nat) : Value := .agg #[.int .i64 x.k, .int .i64 x.l, .int .i64 x.s, .slice Ap x.d.length cp, .int .i64 x.f]

/-- A slice of n slots, in blocks below B. -/
structure Slots (w : World) (B : Nat) (A : Option Addr) (n : Nat) (ss : List Sl) : Prop where
  len : ss.length = n
  at_ : ∀ (i : Nat) x, ss[i]? = some x → ∃ b off Ap cp, A = some ⟨b, off, none⟩ ∧ SlAt w B b (off + i * 5) x Ap cp

section
variable {w w' : World} {B B' : Nat}

theorem SlAt.keep {b o : Nat} {x : Sl} {Ap : Option Addr} {cp : Nat} (h : SlAt w B b o x Ap cp) (hk : Below B w w') : SlAt w' B b o x Ap cp := by
  have hb : ∀ i v, w.cell? ⟨b, i, none⟩ = some v → w'.cell? ⟨b, i, none⟩ = some v := fun i v hv => (World.cell?_of_block (w := w) (hk.block b h.lt)).trans hv
  exact ⟨hb _ _ h.c0, hb _ _ h.c1, hb _ _ h.c2, hb _ _ h.c3, hb _ _ h.c4, h.lt, h.fit, h.top, bytes_keep h.data hk⟩

theorem Slots.keep {A : Option Addr} {n : Nat} {ss : List Sl} (h : Slots w B A n ss) (hk : Below B w w') : Slots w' B A n ss := ⟨h.len, fun i x hi => by
  obtain ⟨b, off, Ap, cp, e, ho⟩ := h.at_ i x hi
  exact ⟨b, off, Ap, cp, e, ho.keep hk⟩⟩

theorem Slots.more {A : Option Addr} {n : Nat} {ss : List Sl} (h : Slots w B A n ss) (hB : B ≤ B') : Slots w B' A n ss := ⟨h.len, fun i x hi => by
  obtain ⟨b, off, Ap, cp, e, ho⟩ := h.at_ i x hi
  exact ⟨b, off, Ap, cp, e, ho.c0, ho.c1, ho.c2, ho.c3, ho.c4, Nat.lt_of_lt_of_le ho.lt hB, ho.fit, ho.top, bytes_more ho.data hB⟩⟩

theorem Slots.below {A : Option Addr} {n : Nat} {ss : List Sl} (h : Slots w w.heap.size A n ss) (hb : Below w.heap.size w w') : Slots w' w'.heap.size A n ss := (h.keep hb).more hb.size
end

/-! ### Rows that end with bytes, gathered by the call itself -/

/-- A row: some ints, and the slice of its bytes. -/
structure Rd where
  z : List Int
  A : Option Addr
  c : Nat
  d : List UInt8

def Rd.cells (r : Rd) : List Value := r.z.map (Value.int .i64) ++ [.slice r.A r.d.length r.c]
def Rd.key (r : Rd) : List Int × List UInt8 := (r.z, r.d)

theorem Rd.one (r : Rd) : ∀ u ∈ r.cells, u.oneCell' = true := by
  intro u hu
  rcases List.mem_append.1 hu with hu | hu
  · obtain ⟨x, _, rfl⟩ := List.mem_map.1 hu
    rfl
  · rw [List.mem_singleton.1 hu]
    rfl

structure Hold (w : World) (base : Nat) (e : TypeId) (sz : Nat) (v : Value) (rs : List Rd) : Prop where
  rows : OwnR w base e sz v (rs.map Rd.cells)
  data : ∀ r ∈ rs, r.d.length ≤ r.c ∧ r.c ≤ maxLen ∧ Lie w (fun b => b < w.heap.size ∧ v.ownBlock ≠ some b) r.A r.d.length r.d

section
variable {w w' w1 w2 : World} {base : Nat} {e : TypeId} {sz : Nat} {v v' : Value} {rs : List Rd}

theorem hold_nil (w : World) (base : Nat) (e : TypeId) (sz : Nat) : Hold w base e sz (.slice none 0 0) [] := ⟨ownR_nil _ _ _ _, fun r hr => by simp at hr⟩

theorem Hold.below (h : Hold w base e sz v rs) (hb : Below w.heap.size w w') : Hold w' base e sz v rs :=
  ⟨h.rows.below hb, fun r hr => by
    obtain ⟨h1, h2, h3⟩ := h.data r hr
    exact ⟨h1, h2, h3.keep (fun b hb2 => ⟨Nat.lt_of_lt_of_le hb2.1 hb.size, hb2.2⟩) (fun b hb2 => hb.block b hb2.1)⟩⟩

theorem Hold.form (h : Hold w base e sz v rs) : ∃ A c, v = .slice A rs.length c ∧ rs.length ≤ c ∧ c ≤ maxLen ∧ (0 < rs.length → ∃ g, A = some ⟨g, 0, none⟩ ∧ base ≤ g ∧ g < w.heap.size) := by
  obtain ⟨A, c, h1, h2, h3, h4⟩ := h.rows.form
  rw [List.length_map] at h1 h2 h4
  refine ⟨A, c, h1, h2, h3, fun h0 => ?_⟩
  obtain ⟨g, rfl⟩ := h4 h0
  exact ⟨g, rfl, h.rows.block g (by rw [h1]; rfl), h.rows.lt g (by rw [h1]; rfl)⟩

/-- The cells of a row. -/
theorem Hold.cell {g n c : Nat} (h : Hold w base e sz (.slice (some ⟨g, 0, none⟩) n c) rs) {i : Nat} {r : Rd} (hr : rs[i]? = some r) {j : Nat} {x : Value} (hx : r.cells[j]? = some x) : w.cell? ⟨g, i * sz + j, none⟩ = some x :=
  (h.rows.cell (by rw [List.getElem?_map, hr]; rfl) hx).1

theorem Hold.bytes (h : Hold w base e sz v rs) {r : Rd} (hr : r ∈ rs) : Bytes w w.heap.size r.A r.d.length r.d := (h.data r hr).2.2.bytes fun _ hb => hb.1

/-- A row more. -/
theorem Hold.snoc (h : Hold w base e sz v rs) (r : Rd) (hrow : OwnR w2 base e sz v' (rs.map Rd.cells ++ [r.cells])) (hg : (w.alloc (.cells r.cells.toArray e)).grownBy w2 v.ownBlock) (hl : ∀ b, v'.ownBlock = some b → v.ownBlock = some b ∨ w.heap.size < b)
    (hc : r.d.length ≤ r.c ∧ r.c ≤ maxLen) (hd : Lie w (fun b => b < w.heap.size ∧ v.ownBlock ≠ some b) r.A r.d.length r.d) : Hold w2 base e sz v' (rs ++ [r]) := by
  have hs : w.heap.size + 1 ≤ w2.heap.size := by have := hg.size; simpa using this
  have hk : ∀ b, b < w.heap.size ∧ v.ownBlock ≠ some b → w2.heap[b]? = w.heap[b]? := fun b hb => by
    rw [hg.block b (by simp; omega) (fun e => hb.2 e.symm), Below.heap_alloc w _ b hb.1]
  have hn : ∀ b, b < w.heap.size ∧ v.ownBlock ≠ some b → b < w2.heap.size ∧ v'.ownBlock ≠ some b := fun b hb =>
    ⟨by omega, fun e => (hl b e).elim hb.2 (fun h2 => by omega)⟩
  refine ⟨by rw [List.map_append]; exact hrow, fun q hq => ?_⟩
  rcases List.mem_append.1 hq with hq | hq
  · obtain ⟨h1, h2, h3⟩ := h.data q hq
    exact ⟨h1, h2, h3.keep hn hk⟩
  · rw [List.mem_singleton.1 hq]
    exact ⟨hc.1, hc.2, hd.keep hn hk⟩
end

/-- append of a row, as it runs, and what it leaves. -/
theorem hold_append {P : Program} (w : World) {base : Nat} {t ty e : TypeId} {sz bs : Nat} (hb0 : bs ≤ 1000) (ht : P.underlying t = some (.slice e)) (hi : rowInfo P e sz bs) {v : Value} {rs : List Rd} (h : Hold w base e sz v rs)
    (r : Rd) (hsz : r.z.length + 1 = sz) (hlen : rs.length ≤ 1000000000) (hbase : base ≤ w.heap.size) (hc : r.d.length ≤ r.c ∧ r.c ≤ maxLen) (hd : Lie w (fun b => b < w.heap.size ∧ v.ownBlock ≠ some b) r.A r.d.length r.d) :
    ∃ A c w2, (Builtin.append_ #[t, t] ty #[v, .slice (some ⟨w.heap.size, 0, none⟩) 1 1]).run P (w.alloc (.cells r.cells.toArray e)) = .ok (.slice A (rs.length + 1) c) w2 ∧ Hold w2 base e sz (.slice A (rs.length + 1) c) (rs ++ [r]) ∧ Below base w w2 ∧ w.heap.size < w2.heap.size ∧ ∀ k, k < w.heap.size → v.ownBlock ≠ some k → w2.heap[k]? = w.heap[k]? := by
  obtain ⟨v', w2, hrun, hrow, hg, hl⟩ := run_append_row (P := P) w base t ty e sz bs (by omega) hb0 ht hi v (rs.map Rd.cells) h.rows r.cells (by simp [Rd.cells, hsz]) r.one (by rw [List.length_map]; exact hlen) hbase
  have hs := h.snoc r hrow hg hl hc hd
  obtain ⟨A, c, hv, _⟩ := hs.form
  rw [List.length_append, List.length_singleton] at hv
  rw [hv] at hs hrun
  exact ⟨A, c, w2, hrun, hs, ((Below.refl base w).alloc hbase _).grown hg (by simp; omega) (fun k hk => h.rows.block k hk), by have := hg.size; simp at this; omega, fun k hk hn => by
    rw [hg.block k (by simp; omega) (fun e => hn e.symm), Below.heap_alloc w _ k hk]⟩

theorem wpList_append_run {Pr : Program} {w w' : World} {ops : Array Oper} {rest : List Oper} {o : Oper} {a : Act} {Q : Exit → Act → World → Prop} (hgd : o.guard = none) (s x : Operand) (t : TypeId)
    (ho : o.op = .call { callee := .builtin .append, args := #[s, x], argTypes := #[t, t] }) (v1 v2 v' : Value) (hs : a.eval s = v1) (hx : a.eval x = v2) (hrun : ∀ ty, (Builtin.append_ #[t, t] ty #[v1, v2]).run Pr w = .ok v' w') (h : wpList Pr ops Q rest (a.put o.dst v') w') : wpList Pr ops Q (o :: rest) a w :=
  wpList_plain hgd fun _ hK => by
    unfold Oper.wp execOp
    simp only [ho, resolve, invoke, builtin, Sem.run_bind, Sem.run_pure, Result.andThen_ok, List.map_toArray, List.map_cons, List.map_nil, hs, hx, hrun]
    exact hK _ _ h

theorem step_append_run {P : Program} {w w' : World} {ops : Array Oper} {o : Oper} {a : Act} {K : Act → World → Prop} {Q : Exit → Act → World → Prop} {E : Prop} (hgd : o.guard = none) (s x : Operand) (t : TypeId)
    (ho : o.op = .call { callee := .builtin .append, args := #[s, x], argTypes := #[t, t] }) (v1 v2 v' : Value) (hs : a.eval s = v1) (hx : a.eval x = v2) (hrun : ∀ ty, (Builtin.append_ #[t, t] ty #[v1, v2]).run P w = .ok v' w') (h : K (a.put o.dst v') w') :
    if Region.wanted o (yielded ops a.tmps) = true then Oper.wp P o a w K Q else E := by
  rw [if_pos (by simp [Region.wanted, hgd])]
  unfold Oper.wp execOp
  simp only [ho, resolve, invoke, builtin, Sem.run_bind, Sem.run_pure, Result.andThen_ok, List.map_toArray, List.map_cons, List.map_nil, hs, hx, hrun]
  exact h

/-- A block of another type is not the rows' own. -/
theorem Hold.ne {w : World} {base : Nat} {e t : TypeId} {sz : Nat} {v : Value} {rs : List Rd} (h : Hold w base e sz v rs) {b : Nat} {cs : Array Value} (hb : w.heap[b]? = some (.cells cs t (0, 0))) (ht : t ≠ e) : v.ownBlock ≠ some b := by
  intro hv
  rcases h.rows.row.2 with ⟨rfl, _⟩ | ⟨g, cap, cur, rfl, _, hh, _⟩
  · simp [Value.ownBlock] at hv
  · simp [Value.ownBlock] at hv
    subst hv
    rw [hb] at hh
    injection hh with hh
    injection hh with _ hh
    exact ht hh

/-- Bytes of the call's own that are younger than the rows' block. -/
theorem lie_own {w : World} {lo : Nat} {e8 : TypeId} {x v : Value} {xs : List UInt8} (h : Own w lo e8 x xs) (hv : ∀ k, v.ownBlock = some k → k < lo) : ∃ A c, x = .slice A xs.length c ∧ (xs.length ≤ c ∧ c ≤ maxLen) ∧ Lie w (fun b => b < w.heap.size ∧ v.ownBlock ≠ some b) A xs.length xs := by
  obtain ⟨A, c, h1, h2, h3, h4⟩ := Lie.of_own h
  exact ⟨A, c, h1, ⟨h2, h3⟩, h4.keep (fun b hb => ⟨hb.2, fun e => by have := hv b e; omega⟩) (fun _ _ => rfl)⟩

/-- Bytes that are older than the rows' block. -/
theorem lie_old {w : World} {B : Nat} {v : Value} {A : Option Addr} {n : Nat} {xs : List UInt8} (h : Bytes w B A n xs) (hB : B ≤ w.heap.size) (hv : ∀ k, v.ownBlock = some k → B ≤ k) : Lie w (fun b => b < w.heap.size ∧ v.ownBlock ≠ some b) A n xs :=
  ⟨h.1, fun i hi => by
    obtain ⟨b, off, h1, h2, h3⟩ := h.2 i hi
    exact ⟨b, off, h1, ⟨by omega, fun e => by have := hv b e; omega⟩, h3⟩⟩

/-! ### A page that was built -/

/-- The block g holds the bytes of the slice x; it is no block of slices. -/
structure Lies (w : World) (g : Nat) (x : Value) (xs : List UInt8) : Prop where
  form : ∃ c, x = .slice (some ⟨g, 0, none⟩) xs.length c ∧ xs.length ≤ c ∧ c ≤ maxLen
  blk : ∃ cur t, w.heap[g]? = some (.cells cur t (0, 0)) ∧ t ≠ 40 ∧ xs.length ≤ cur.size ∧ cur.toList.take xs.length = xs.map cellOf

section
variable {w w' : World} {g : Nat} {x : Value} {xs : List UInt8}

theorem Lies.lt (h : Lies w g x xs) : g < w.heap.size := by
  obtain ⟨cur, t, h1, _⟩ := h.blk
  exact (Array.getElem?_eq_some_iff.1 h1).1

theorem Lies.keep (h : Lies w g x xs) (hk : w'.heap[g]? = w.heap[g]?) : Lies w' g x xs := by
  obtain ⟨cur, t, h1, h2⟩ := h.blk
  exact ⟨h.form, cur, t, hk.trans h1, h2⟩

theorem Lies.cell (h : Lies w g x xs) {i : Nat} {y : UInt8} (hy : xs[i]? = some y) : w.cell? ⟨g, i, none⟩ = some (.int .u8 (y.toNat : Int)) ∧ w.frozen? ⟨g, i, none⟩ = false := by
  obtain ⟨cur, t, h1, h2, h3, h4⟩ := h.blk
  have hi : i < xs.length := (List.getElem?_eq_some_iff.1 hy).1
  have e1 : (cur.toList.take xs.length)[i]? = some (cellOf y) := by rw [h4, List.getElem?_map, hy]; rfl
  rw [List.getElem?_take, if_pos hi, Array.getElem?_toList] at e1
  exact ⟨by simp only [World.cell?, h1]; exact e1, by simp [World.frozen?, h1]⟩

theorem Lies.bytes (h : Lies w g x xs) : Bytes w (g + 1) (some ⟨g, 0, none⟩) xs.length xs := ⟨rfl, fun i hi => ⟨g, 0, rfl, Nat.lt_succ_self _, by rw [Nat.zero_add]; exact (h.cell (List.getElem?_eq_getElem hi)).1⟩⟩

/-- A byte laid anew. -/
theorem Lies.set (h : Lies w g x xs) (i : Nat) (y : UInt8) : Lies (w.setCell ⟨g, i, none⟩ (.int .u8 (y.toNat : Int))) g x (xs.set i y) := by
  obtain ⟨cur, t, h1, h2, h3, h4⟩ := h.blk
  refine ⟨by rw [List.length_set]; exact h.form, cur.setIfInBounds i (cellOf y), t, by simp [World.setCell, Array.getElem?_modify, h1, cellOf], h2, by simpa using h3, ?_⟩
  have e2 : (cur.setIfInBounds i (cellOf y)).toList = cur.toList.set i (cellOf y) := by simp
  rw [e2, List.length_set, List.take_set, h4, List.map_set]
end

theorem lies_own {w : World} {base : Nat} {x : Value} {xs : List UInt8} (h : Own w base 5 x xs) (h0 : 0 < xs.length) : ∃ g, base ≤ g ∧ Lies w g x xs := by
  rcases h.2 with ⟨_, hz⟩ | ⟨g, cap, cur, hv, hg, hh, hnc, hcm, hcs, ht⟩
  · omega
  · refine ⟨g, hg, ⟨cap, hv, hnc, hcm⟩, cur, _, hh, by decide, by omega, ?_⟩
    rw [Nat.mul_one] at ht
    exact ht

theorem lies_arr {w : World} {g : Nat} {t : TypeId} {xs : List UInt8} (h : OobPkg.Arr w g t xs) (ht : t ≠ 40) (hl : xs.length ≤ maxLen) : Lies w g (.slice (some ⟨g, 0, none⟩) xs.length xs.length) xs :=
  ⟨⟨_, rfl, Nat.le_refl _, hl⟩, _, t, h, ht, by simp, List.take_of_length_le (by simp)⟩

/-- A sector of a page, and what stands beside it: the two slices, their blocks, their bytes. -/
structure Rw where
  x : Value
  y : Value
  g : Nat
  h : Nat
  d : List UInt8
  c : List UInt8

def Rw.two (r : Rw) : List UInt8 × List UInt8 := (r.d, r.c)

/-- A page: two slices of slices, each in blocks of its own, from lo on; no two slices of bytes share a block. -/
structure Pg (w : World) (lo : Nat) (a b : Value) (rs : List Rw) : Prop where
  own1 : OwnV w lo 40 a (rs.map Rw.x)
  own2 : OwnV w lo 40 b (rs.map Rw.y)
  lie : ∀ r ∈ rs, Lies w r.g r.x r.d ∧ Lies w r.h r.y r.c ∧ lo ≤ r.h ∧ r.h < r.g
  rise : rs.Pairwise (fun r r' => r.g < r'.h)
  apart : ∀ k, a.ownBlock = some k → b.ownBlock ≠ some k

section
variable {w w' w1 w2 w3 w4 : World} {lo : Nat} {a b a' b' : Value} {rs : List Rw}

theorem pg_nil (w : World) (lo : Nat) : Pg w lo (.slice none 0 0) (.slice none 0 0) [] := ⟨ownV_nil _ _ _, ownV_nil _ _ _, fun r hr => by simp at hr, List.Pairwise.nil, fun k h => by simp [Value.ownBlock] at h⟩

theorem Pg.below (h : Pg w lo a b rs) (hb : Below w.heap.size w w') : Pg w' lo a b rs :=
  ⟨h.own1.below hb, h.own2.below hb, fun r hr => by
    obtain ⟨h1, h2, h3, h4⟩ := h.lie r hr
    exact ⟨h1.keep (hb.block _ h1.lt), h2.keep (hb.block _ h2.lt), h3, h4⟩, h.rise, h.apart⟩

theorem Pg.le {lo' : Nat} (h : Pg w lo a b rs) (hl : lo' ≤ lo) : Pg w lo' a b rs :=
  ⟨h.own1.le hl, h.own2.le hl, fun r hr => by
    obtain ⟨h1, h2, h3, h4⟩ := h.lie r hr
    exact ⟨h1, h2, by omega, h4⟩, h.rise, h.apart⟩

/-- A block of slices and one of bytes are not the same. -/
theorem lies_ne {v : Value} {vs : List Value} {g : Nat} {x : Value} {xs : List UInt8} (h : OwnV w lo 40 v vs) (k : Lies w g x xs) : v.ownBlock ≠ some g := fun e => by
  obtain ⟨cur, hc⟩ := h.elem g e
  obtain ⟨cur', t, hc', ht, _⟩ := k.blk
  rw [hc] at hc'
  injection hc' with hc'
  injection hc' with _ hc'
  exact ht hc'.symm

/-- One sector more: both appends. -/
theorem Pg.snoc (h : Pg w lo a b rs) (r : Rw) (hx : Lies w r.g r.x r.d) (hy : Lies w r.h r.y r.c) (hlo : lo ≤ r.h) (hgh : r.h < r.g) (hnew : ∀ q ∈ rs, q.g < r.h)
    (G1 : w.grownBy w1 a.ownBlock) (O1 : OwnV w1 lo 40 a' (rs.map Rw.x ++ [r.x])) (P1 : ∀ k, a'.ownBlock = some k → a.ownBlock = some k ∨ w.heap.size ≤ k)
    (G2 : w1.grownBy w2 b.ownBlock) (O2 : OwnV w2 lo 40 b' (rs.map Rw.y ++ [r.y])) (P2 : ∀ k, b'.ownBlock = some k → b.ownBlock = some k ∨ w1.heap.size ≤ k) : Pg w2 lo a' b' (rs ++ [r]) := by
  have K2 : OwnV w1 lo 40 b (rs.map Rw.y) := h.own2.keep fun k hk => G1.block k (h.own2.lt k hk) (fun e => h.apart k e.symm hk)
  have st : ∀ g x xs, Lies w g x xs → Lies w2 g x xs := fun g x xs hl => by
    have h1 : Lies w1 g x xs := hl.keep (G1.block g hl.lt (fun e => lies_ne h.own1 hl e.symm))
    exact h1.keep (G2.block g h1.lt (fun e => lies_ne K2 h1 e.symm))
  have sep : ∀ k, a'.ownBlock = some k → b.ownBlock ≠ some k := fun k h1 h2 => (P1 k h1).elim (fun h3 => h.apart k h3 h2) (fun h3 => by have := h.own2.lt k h2; omega)
  refine ⟨?_, ?_, fun q hq => ?_, ?_, fun k h1 h2 => ?_⟩
  · rw [List.map_append]
    exact O1.keep fun k hk => G2.block k (O1.lt k hk) (fun e => sep k hk e.symm)
  · rw [List.map_append]
    exact O2
  · rcases List.mem_append.1 hq with hq | hq
    · obtain ⟨h1, h2, h3, h4⟩ := h.lie q hq
      exact ⟨st _ _ _ h1, st _ _ _ h2, h3, h4⟩
    · rw [List.mem_singleton.1 hq]
      exact ⟨st _ _ _ hx, st _ _ _ hy, hlo, hgh⟩
  · rw [List.pairwise_append]
    exact ⟨h.rise, List.pairwise_singleton _ _, fun q hq q' hq' => by rw [List.mem_singleton.1 hq']; exact hnew q hq⟩
  · exact (P2 k h2).elim (fun h3 => sep k h1 h3) (fun h3 => by have := O1.lt k h1; omega)

theorem map_len {α β : Type} (f : α → β) (l : List α) : (l.map f).length = l.length := List.length_map _

/-- Its two slices, as they read. -/
theorem Pg.reads (h : Pg w lo a b rs) : ∃ A c A' c', a = .slice A rs.length c ∧ b = .slice A' rs.length c' ∧ rs.length ≤ c ∧ rs.length ≤ c' ∧ c ≤ maxLen ∧ c' ≤ maxLen ∧ Bys w w.heap.size A rs.length (rs.map Rw.d) ∧ Bys w w.heap.size A' rs.length (rs.map Rw.c) := by
  obtain ⟨A, c, e1, e2, e3, e4⟩ := h.own1.reads
  obtain ⟨A', c', f1, f2, f3, f4⟩ := h.own2.reads
  rw [List.length_map] at e1 e2 f1 f2
  refine ⟨A, c, A', c', e1, f1, e2, f2, e3, f3, ⟨by simp, fun i xs hi => ?_⟩, ⟨by simp, fun i xs hi => ?_⟩⟩
  · rw [List.getElem?_map, Option.map_eq_some_iff] at hi
    obtain ⟨r, hr, rfl⟩ := hi
    obtain ⟨l, _⟩ := h.lie r (List.mem_of_getElem? hr)
    obtain ⟨k, _, k2, k3, k4⟩ := e4 i r.x (by rw [List.getElem?_map, hr]; rfl)
    obtain ⟨cp, l1, l2, l3⟩ := l.form
    rw [l1] at k4
    exact ⟨k, 0, _, cp, by assumption, k3, by rw [Nat.zero_add]; exact k4, l2, l3, bytes_more l.bytes l.lt⟩
  · rw [List.getElem?_map, Option.map_eq_some_iff] at hi
    obtain ⟨r, hr, rfl⟩ := hi
    obtain ⟨_, l, _⟩ := h.lie r (List.mem_of_getElem? hr)
    obtain ⟨k, _, k2, k3, k4⟩ := f4 i r.y (by rw [List.getElem?_map, hr]; rfl)
    obtain ⟨cp, l1, l2, l3⟩ := l.form
    rw [l1] at k4
    exact ⟨k, 0, _, cp, by assumption, k3, by rw [Nat.zero_add]; exact k4, l2, l3, bytes_more l.bytes l.lt⟩
end

end Go.Proofs.Yteonjdigcecceaa.PagePkg
