/-
  A ring of package ring in memory: which blocks it lies in, what they hold, and what keeps it.
-/
import Derived.Test.YtecmmihobojjpaaRingMath
import Derived.Test.YtecmmihobojjpaaRowsOwn
import Derived.Test.YtecmmihobojjpaaTurn
import Derived.Test.YtecmmihobojjpaaChecked
namespace Go.Proofs.Ytecmmihobojjpaa.RingPkg
open Go.RowKit Ring
set_option maxRecDepth 4000

abbrev ptr (g : Nat) : Value := .pointer (some ⟨g, 0, none⟩)

/-- A slot in memory: what it is, how far it has come, and the value of its bytes. -/
structure Row where
  s : Slot
  q : Int
  v : Value

def Row.ab (r : Row) : Slot × Int := (r.s, r.q)
def Row.cells (r : Row) : List Value := [.int .i64 r.s.k, .int .i64 r.s.l, .int .i64 r.s.s, r.v, .int .i64 r.s.f, .int .i64 r.q]
def Row.out (q : Int) (r : Row) : Row := { r with q := q }

theorem Row.cells_len (r : Row) : r.cells.length = 6 := rfl
theorem Row.cells_out (q : Int) (r : Row) : (r.out q).cells = r.cells.set 5 (.int .i64 q) := rfl

/-- The bytes of a slot lie in blocks of D. -/
def Dat (w : World) (D : Nat → Prop) (v : Value) (xs : List UInt8) : Prop := ∃ A c, v = .slice A xs.length c ∧ xs.length ≤ c ∧ c ≤ maxLen ∧ xs.length ≤ 100000000000000 ∧ Lie w D A xs.length xs

theorem Dat.keep {w w' : World} {D D' : Nat → Prop} {v : Value} {xs : List UInt8} (h : Dat w D v xs) (hd : ∀ b, D b → D' b) (hk : ∀ b, D b → w'.heap[b]? = w.heap[b]?) : Dat w' D' v xs := by
  obtain ⟨A, c, h1, h2, h3, h4, h5⟩ := h
  exact ⟨A, c, h1, h2, h3, h4, h5.keep hd hk⟩

theorem Dat.of_own {w : World} {base : Nat} {e : TypeId} {v : Value} {xs : List UInt8} (h : Own w base e v xs) (hx : xs.length ≤ 100000000000000) : Dat w (fun b => base ≤ b ∧ b < w.heap.size) v xs := by
  obtain ⟨A, c, h1, h2, h3, h4⟩ := Lie.of_own h
  exact ⟨A, c, h1, h2, h3, hx, h4⟩

/-- The blocks of a ring: its own, its slots', its bytes'. -/
structure Pl where
  g : Nat
  v : Value
  D : Nat → Prop

def Pl.own (P : Pl) (b : Nat) : Prop := b = P.g ∨ P.v.ownBlock = some b ∨ P.D b

/-- A ring in memory: of so many slots, its tail, its slots from the tail on. -/
structure Rng (w : World) (P : Pl) (size t : Int) (rs : List Row) : Prop where
  head : w.heap[P.g]? = some (.cells #[.int .i64 size, .int .i64 t, P.v] 58 (0, 0))
  rows : OwnR w 0 66 6 P.v (rs.map Row.cells)
  data : ∀ r ∈ rs, Dat w P.D r.v r.s.d
  g_v : P.v.ownBlock ≠ some P.g
  g_d : ¬ P.D P.g
  v_d : ∀ b, P.v.ownBlock = some b → ¬ P.D b
  d_lt : ∀ b, P.D b → b < w.heap.size

section
variable {w w' : World} {P : Pl} {size t : Int} {rs : List Row}

theorem Rng.g_lt (h : Rng w P size t rs) : P.g < w.heap.size := (Array.getElem?_eq_some_iff.1 h.head).1

theorem Rng.lt (h : Rng w P size t rs) : ∀ b, P.own b → b < w.heap.size := by
  rintro b (rfl | hb | hb)
  · exact h.g_lt
  · exact h.rows.lt b hb
  · exact h.d_lt b hb

theorem Rng.keep (h : Rng w P size t rs) (hs : w.heap.size ≤ w'.heap.size) (hk : ∀ b, P.own b → w'.heap[b]? = w.heap[b]?) : Rng w' P size t rs :=
  ⟨(hk P.g (.inl rfl)).trans h.head, h.rows.keep fun b hb => hk b (.inr (.inl hb)), fun r hr => (h.data r hr).keep (fun _ h => h) fun b hb => hk b (.inr (.inr hb)), h.g_v, h.g_d, h.v_d, fun b hb => Nat.lt_of_lt_of_le (h.d_lt b hb) hs⟩

theorem Rng.below (h : Rng w P size t rs) (hb : Below w.heap.size w w') : Rng w' P size t rs := h.keep hb.size fun b ho => hb.block b (h.lt b ho)

theorem Rng.turn {O O' : Nat → Prop} (h : Rng w P size t rs) (ht : Turn O O' w w') (hd : ∀ b, P.own b → ¬ O b) : Rng w' P size t rs := h.keep ht.size (ht.kept h.lt hd)

theorem Rng.drew (h : Rng w P size t rs) : Rng w.drew P size t rs := h.keep (Nat.le_refl _) (fun _ _ => rfl)

/-- The cells of its own block. -/
theorem Rng.cells (h : Rng w P size t rs) : w.cell? ⟨P.g, 0, none⟩ = some (.int .i64 size) ∧ w.cell? ⟨P.g, 1, none⟩ = some (.int .i64 t) ∧ w.cell? ⟨P.g, 2, none⟩ = some P.v := by
  simp [World.cell?, h.head]

theorem Rng.free (h : Rng w P size t rs) (i : Nat) : w.frozen? ⟨P.g, i, none⟩ = false := by
  simp [World.frozen?, h.head]

/-- The slice of its slots. -/
theorem Rng.slice (h : Rng w P size t rs) : ∃ A c, P.v = .slice A rs.length c ∧ rs.length ≤ c ∧ c ≤ maxLen ∧ (0 < rs.length → ∃ b, A = some ⟨b, 0, none⟩ ∧ b < w.heap.size ∧ b ≠ P.g) := by
  obtain ⟨A, c, h1, h2, h3, h4⟩ := h.rows.form
  rw [List.length_map] at h1 h2 h4
  refine ⟨A, c, h1, h2, h3, fun hl => ?_⟩
  obtain ⟨b, rfl⟩ := h4 hl
  exact ⟨b, rfl, h.rows.lt b (by rw [h1]; rfl), fun e => h.g_v (by rw [h1, ← e]; rfl)⟩

/-- The cells of a slot. -/
theorem Rng.at_ (h : Rng w P size t rs) {i : Nat} {r : Row} (hr : rs[i]? = some r) : ∃ b c, P.v = .slice (some ⟨b, 0, none⟩) rs.length c ∧ rs.length ≤ c ∧ c ≤ maxLen ∧ b < w.heap.size ∧ b ≠ P.g ∧ ∀ (j : Nat) x, r.cells[j]? = some x → w.cell? ⟨b, i * 6 + j, none⟩ = some x ∧ w.frozen? ⟨b, i * 6 + j, none⟩ = false := by
  have hl : i < rs.length := (List.getElem?_eq_some_iff.1 hr).1
  obtain ⟨A, c, h1, h2, h3, h4⟩ := h.slice
  obtain ⟨b, rfl, h5, h6⟩ := h4 (by omega)
  refine ⟨b, c, h1, h2, h3, h5, h6, fun j x hx => ?_⟩
  have hrow := h.rows
  rw [h1] at hrow
  exact hrow.cell (by rw [List.getElem?_map, hr]; rfl) hx

/-- Its tail laid anew. -/
theorem Rng.set_tail (h : Rng w P size t rs) (t' : Int) : Rng (w.setCell ⟨P.g, 1, none⟩ (.int .i64 t')) P size t' rs := by
  have hg := grown_setCell w ⟨P.g, 1, none⟩ (.int .i64 t')
  have hk : ∀ b, b < w.heap.size → b ≠ P.g → (w.setCell ⟨P.g, 1, none⟩ (.int .i64 t')).heap[b]? = w.heap[b]? := fun b hb hn => hg.block b hb (fun e => hn (by injection e))
  refine ⟨by simp [World.setCell, Array.getElem?_modify, h.head], h.rows.keep fun b hb => hk b (h.rows.lt b hb) (fun e => h.g_v (by rw [hb, e])), fun r hr => (h.data r hr).keep (fun _ h => h) fun b hb => hk b (h.d_lt b hb) (fun e => h.g_d (by rw [← e]; exact hb)), h.g_v, h.g_d, h.v_d, fun b hb => by simpa using h.d_lt b hb⟩

/-- How far a slot has come, laid anew. -/
theorem Rng.set_state (h : Rng w P size t rs) {b c n i : Nat} (hv : P.v = .slice (some ⟨b, 0, none⟩) n c) (q : Int) : Rng (w.setCell ⟨b, i * 6 + 5, none⟩ (.int .i64 q)) P size t (rs.modify i (Row.out q)) := by
  have hg := grown_setCell w ⟨b, i * 6 + 5, none⟩ (.int .i64 q)
  have hv2 : P.v.ownBlock = some b := by rw [hv]; rfl
  have hk : ∀ k, k < w.heap.size → k ≠ b → (w.setCell ⟨b, i * 6 + 5, none⟩ (.int .i64 q)).heap[k]? = w.heap[k]? := fun k hk hn => hg.block k hk (fun e => hn (by injection e))
  have hrow := h.rows
  rw [hv] at hrow
  have hset := hrow.set i 5 (by omega) (.int .i64 q)
  have e : (rs.map Row.cells).modify i (·.set 5 (.int .i64 q)) = (rs.modify i (Row.out q)).map Row.cells := by
    apply List.ext_getElem?
    intro j
    rw [List.getElem?_modify, List.getElem?_map, List.getElem?_map, List.getElem?_modify]
    cases rs[j]? with
    | none => rfl
    | some r =>
      by_cases hij : i = j
      · simp [hij, Row.cells_out]
      · simp [hij]
  rw [e, ← hv] at hset
  refine ⟨(hk P.g h.g_lt (fun e => h.g_v (by rw [hv2, e]))).trans h.head, hset, fun r hr => ?_, h.g_v, h.g_d, h.v_d, fun b hb => by simpa using h.d_lt b hb⟩
  obtain ⟨j, hj⟩ := List.getElem?_of_mem hr
  rw [List.getElem?_modify] at hj
  cases hr0 : rs[j]? with
  | none => rw [hr0] at hj; cases hj
  | some r0 =>
    rw [hr0] at hj
    have hd := (h.data r0 (List.mem_of_getElem? hr0)).keep (fun _ h => h) (fun k hb => hk k (h.d_lt k hb) (fun e => h.v_d b hv2 (by rw [← e]; exact hb)))
    injection hj with hj
    split at hj
    · rw [← hj]
      exact hd
    · rw [← hj]
      exact hd
end

/-- A new one. -/
theorem Rng.new (w : World) (size : Int) : Rng (w.alloc (.cells #[.int .i64 size, .int .i64 0, .slice none 0 0] 58)) ⟨w.heap.size, .slice none 0 0, fun _ => False⟩ size 0 [] :=
  ⟨heap_alloc_new w _, ownR_nil _ _ _ _, fun r hr => by simp at hr, by simp [Value.ownBlock], fun h => h, fun b hb => by simp [Value.ownBlock] at hb, fun b hb => False.elim hb⟩

theorem info8 : byteInfo Try.prog 5 := ⟨_, rfl, by kernel_rfl, by kernel_rfl, by kernel_rfl⟩

theorem below_on {B : Nat} {a b c : World} (h : Below B a b) (k : Below b.heap.size b c) (hB : B ≤ b.heap.size) : Below B a c := h.trans (k.mono hB)

theorem clone_any (A : Option Addr) (n c B : Nat) (xs : List UInt8) (w : World) (hn : n ≤ 100000000000000) (hr : Bytes w B A n xs) (hB : B ≤ w.heap.size) :
    Calls Try.prog 50 #[.slice A n c] w fun e w' => ∃ v, e = .returned v ∧ Own w' w.heap.size 5 v xs ∧ Below w.heap.size w w' := by
  rcases A with _ | ad
  · have hy : xs = [] := by
      rcases xs with _ | ⟨y, ys⟩
      · rfl
      · obtain ⟨b, off, h, _⟩ := hr.2 0 (by simp)
        cases h
    subst hy
    have hnil : (binOp .eql 33 (.slice none n c) (.slice none 0 0)).run Try.prog w = .ok (.bool true) w := Lib.run_eql_slice_nil w 33 5 none n c 0 0 Try.underlying33
    go_enter Try.func50, Try.ntmps50
    go_wp2
    go_ret
    exact ⟨_, rfl, ⟨rfl, .inl ⟨rfl, rfl⟩⟩, Below.refl _ _⟩
  · have hlen : ([] : List UInt8).length + n ≤ 140737488355328 := by simp; omega
    have HR := Lib.hid (bytes_keep (bytes_more hr hB) ((Below.refl w.heap.size w).alloc (Nat.le_refl _) (.cells #[] 5)))
    clear hr
    have hnil : (binOp .eql 33 (.slice (some ad) n c) (.slice none 0 0)).run Try.prog w = .ok (.bool false) w := Lib.run_eql_slice_nil w 33 5 (some ad) n c 0 0 Try.underlying33
    go_enter Try.func50, Try.ntmps50
    go_wp2_with (at_builtin; refine wpList_append_bytes _ rfl _ _ _ rfl w.heap.size 5 Try.underlying33 info8 _ [] rfl (own_new w 5 [] _ rfl (Nat.zero_le _)) w.heap.size (some ad) n c xs rfl HR.out hlen (by simp) ?_)
    intro v2 w2 ho2 hg2 _
    have HO := Lib.hid ho2
    have HB := Lib.hid (((Below.refl w.heap.size w).alloc (Nat.le_refl _) _).grown hg2 (by simp) (fun k hk => by simp [Value.ownBlock] at hk; omega))
    clear ho2 hg2
    go_wp2
    go_ret
    exact ⟨_, rfl, HO.out, HB.out⟩


end Go.Proofs.Ytecmmihobojjpaa.RingPkg
