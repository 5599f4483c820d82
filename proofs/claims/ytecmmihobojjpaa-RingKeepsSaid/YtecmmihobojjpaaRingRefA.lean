/-
  The document's ring in memory: which blocks it lies in, what they hold; New, Head, Tail, Waiting, Free, Copy.
-/
import Derived.Test.YtecmmihobojjpaaRingAbs
import Derived.Deep.RegionHeld3
namespace Go.Proofs.Ytecmmihobojjpaa.RingRef
open Go.RowKit Ring RingPkg
set_option maxRecDepth 4000

def scells (s : Slot) (v : Value) : List Value := [.int .i64 s.k, .int .i64 s.l, .int .i64 s.s, v, .int .i64 s.f]

/-- The blocks of a ring: its own, its slots', its states', its bytes'. -/
structure Pl where
  g : Nat
  v : Value
  u : Value
  D : Nat → Prop

def Pl.own (P : Pl) (b : Nat) : Prop := b = P.g ∨ P.v.ownBlock = some b ∨ P.u.ownBlock = some b ∨ P.D b

/-- The document's ring: so many slots, all slots that were ever put with their bytes' values. -/
structure Ref (w : World) (P : Pl) (size : Int) (all : List (Slot × Int)) : Prop where
  head : w.heap[P.g]? = some (.cells #[.int .i64 size, P.v, P.u] 60 (0, 0))
  rows : ∃ vs : List Value, vs.length = all.length ∧ OwnR w 0 35 5 P.v (List.zipWith (fun x v => scells x.1 v) all vs) ∧ ∀ (i : Nat) x v, all[i]? = some x → vs[i]? = some v → Dat w P.D v x.1.d
  ints : OwnI w 0 3 P.u (all.map (·.2))
  g_v : P.v.ownBlock ≠ some P.g
  g_u : P.u.ownBlock ≠ some P.g
  v_u : ∀ b, P.v.ownBlock = some b → P.u.ownBlock ≠ some b
  g_d : ¬ P.D P.g
  v_d : ∀ b, P.v.ownBlock = some b → ¬ P.D b
  u_d : ∀ b, P.u.ownBlock = some b → ¬ P.D b
  d_lt : ∀ b, P.D b → b < w.heap.size

section
variable {w w' : World} {P : Pl} {size : Int} {all : List (Slot × Int)}

theorem Ref.g_lt (h : Ref w P size all) : P.g < w.heap.size := (Array.getElem?_eq_some_iff.1 h.head).1

theorem Ref.lt (h : Ref w P size all) : ∀ b, P.own b → b < w.heap.size := by
  rintro b (rfl | hb | hb | hb)
  · exact h.g_lt
  · obtain ⟨vs, _, h1, _⟩ := h.rows
    exact h1.lt b hb
  · exact h.ints.lt b hb
  · exact h.d_lt b hb

theorem Ref.keep (h : Ref w P size all) (hs : w.heap.size ≤ w'.heap.size) (hk : ∀ b, P.own b → w'.heap[b]? = w.heap[b]?) : Ref w' P size all := by
  obtain ⟨vs, e, h1, h2⟩ := h.rows
  exact ⟨(hk P.g (.inl rfl)).trans h.head, ⟨vs, e, h1.keep fun b hb => hk b (.inr (.inl hb)), fun i x v hx hv => (h2 i x v hx hv).keep (fun _ h => h) fun b hb => hk b (.inr (.inr (.inr hb)))⟩, h.ints.keep fun b hb => hk b (.inr (.inr (.inl hb))), h.g_v, h.g_u, h.v_u, h.g_d, h.v_d, h.u_d, fun b hb => Nat.lt_of_lt_of_le (h.d_lt b hb) hs⟩

theorem Ref.below (h : Ref w P size all) (hb : Below w.heap.size w w') : Ref w' P size all := h.keep hb.size fun b ho => hb.block b (h.lt b ho)

theorem Ref.turn {O O' : Nat → Prop} (h : Ref w P size all) (ht : Turn O O' w w') (hd : ∀ b, P.own b → ¬ O b) : Ref w' P size all := h.keep ht.size (ht.kept h.lt hd)

theorem Ref.drew (h : Ref w P size all) : Ref w.drew P size all := h.keep (Nat.le_refl _) (fun _ _ => rfl)

theorem Ref.cells (h : Ref w P size all) : w.cell? ⟨P.g, 0, none⟩ = some (.int .i64 size) ∧ w.cell? ⟨P.g, 1, none⟩ = some P.v ∧ w.cell? ⟨P.g, 2, none⟩ = some P.u := by
  simp [World.cell?, h.head]

theorem Ref.free (h : Ref w P size all) (i : Nat) : w.frozen? ⟨P.g, i, none⟩ = false := by
  simp [World.frozen?, h.head]

theorem zip_len {all : List (Slot × Int)} {vs : List Value} (e : vs.length = all.length) : (List.zipWith (fun x v => scells x.1 v) all vs).length = all.length := by
  rw [List.length_zipWith, e, Nat.min_self]

theorem Ref.slots (h : Ref w P size all) : ∃ A c, P.v = .slice A all.length c ∧ all.length ≤ c ∧ c ≤ maxLen := by
  obtain ⟨vs, e, h1, _⟩ := h.rows
  obtain ⟨A, c, h2, h3, h4, _⟩ := h1.form
  rw [zip_len e] at h2 h3
  exact ⟨A, c, h2, h3, h4⟩

theorem Ref.states (h : Ref w P size all) : ∃ A c, P.u = .slice A all.length c ∧ all.length ≤ c ∧ c ≤ maxLen := by
  obtain ⟨A, n, c, h1⟩ := h.ints.form
  have h2 := h.ints
  rw [h1] at h2
  have h3 := h2.len
  rw [List.length_map] at h3
  rw [← h3] at h1 h2
  rcases Nat.eq_zero_or_pos all.length with e | e
  · rcases h2.2 with ⟨hv, _⟩ | ⟨g, cap, cur, hv, _, _, hnc, hcm, _⟩
    · injection hv with _ _ hc
      exact ⟨A, c, h1, by omega, by rw [hc]; exact Nat.zero_le _⟩
    · injection hv with _ _ hc
      exact ⟨A, c, h1, by omega, by rw [hc]; exact hcm⟩
  · obtain ⟨_, _, _, h4, h5⟩ := h2.first e
    exact ⟨A, c, h1, h4, h5⟩

/-- A state's cell. -/
theorem Ref.state (h : Ref w P size all) {i : Nat} {x : Slot × Int} (hx : all[i]? = some x) : ∃ b c, P.u = .slice (some ⟨b, 0, none⟩) all.length c ∧ all.length ≤ c ∧ c ≤ maxLen ∧ b < w.heap.size ∧ b ≠ P.g ∧ w.cell? ⟨b, i, none⟩ = some (.int .i64 x.2) ∧ w.frozen? ⟨b, i, none⟩ = false := by
  have hl : i < all.length := (List.getElem?_eq_some_iff.1 hx).1
  obtain ⟨A, c, h1, h2, h3⟩ := h.states
  have h4 := h.ints
  rw [h1] at h4
  obtain ⟨b, rfl, _⟩ := h4.first (by omega)
  obtain ⟨h5, h6⟩ := h4.cell (i := i) (z := x.2) (by rw [List.getElem?_map, hx]; rfl)
  exact ⟨b, c, h1, h2, h3, h4.lt b rfl, fun e => h.g_u (by rw [h1, e]; rfl), h5, h6⟩

/-- A slot's cells. -/
theorem Ref.slot (h : Ref w P size all) {i : Nat} {x : Slot × Int} (hx : all[i]? = some x) : ∃ b c v, P.v = .slice (some ⟨b, 0, none⟩) all.length c ∧ all.length ≤ c ∧ c ≤ maxLen ∧ b < w.heap.size ∧ Dat w P.D v x.1.d ∧ ∀ (j : Nat) y, (scells x.1 v)[j]? = some y → w.cell? ⟨b, i * 5 + j, none⟩ = some y := by
  have hl : i < all.length := (List.getElem?_eq_some_iff.1 hx).1
  obtain ⟨vs, e, h1, h2⟩ := h.rows
  obtain ⟨A, c, h3, h4, h5, h6⟩ := h1.form
  rw [zip_len e] at h3 h4 h6
  obtain ⟨b, rfl⟩ := h6 (by omega)
  obtain ⟨v, hv⟩ : ∃ v, vs[i]? = some v := ⟨_, List.getElem?_eq_getElem (by omega)⟩
  rw [h3] at h1
  refine ⟨b, c, v, h3, h4, h5, h1.lt b rfl, h2 i x v hx hv, fun j y hy => ?_⟩
  exact (h1.cell (by rw [List.getElem?_zipWith, hx, hv]) hy).1
end

theorem New_in (size : Int) (w : World) (h0 : 1 ≤ size) (h1 : size ≤ 256) : Calls Try.prog 12 #[.int .i64 size] w fun e w' => ∃ P, e = .returned (.tuple #[ptr P.g, .int .i64 0]) ∧ Ref w' P size [] ∧ (∀ b, P.own b → w.heap.size ≤ b) ∧ Below w.heap.size w w' := by
  go_enter Try.func12, Try.ntmps12
  go_wp2
  go_ret2
  refine ⟨⟨w.heap.size, .slice none 0 0, .slice none 0 0, fun _ => False⟩, rfl, ⟨heap_alloc_new w _, ⟨[], rfl, ownR_nil _ _ _ _, fun i x v hx => by simp at hx⟩, ownI_nil _ _ _, by simp [Value.ownBlock], by simp [Value.ownBlock], fun b hb => by simp [Value.ownBlock] at hb, fun h => h, fun b hb => by simp [Value.ownBlock] at hb, fun b hb => by simp [Value.ownBlock] at hb, fun b hb => False.elim hb⟩, ?_, (Below.refl _ _).alloc (Nat.le_refl _) _⟩
  rintro b (rfl | hb | hb | hb)
  · exact Nat.le_refl _
  · simp [Value.ownBlock] at hb
  · simp [Value.ownBlock] at hb
  · exact False.elim hb

theorem New_out (size : Int) (w : World) (h : ¬ (1 ≤ size ∧ size ≤ 256)) : Calls Try.prog 12 #[.int .i64 size] w fun e w' => e = .returned (.tuple #[.pointer none, .int .i64 1]) ∧ w' = w := by
  by_cases h0 : 1 ≤ size
  · have h1 : 256 < size := by omega
    clear h
    go_enter Try.func12, Try.ntmps12
    go_wp2
    go_ret2
    exact ⟨rfl, rfl⟩
  · have h1 : size < 1 := by omega
    clear h
    go_enter Try.func12, Try.ntmps12
    go_wp2
    go_ret2
    exact ⟨rfl, rfl⟩
end Go.Proofs.Ytecmmihobojjpaa.RingRef
