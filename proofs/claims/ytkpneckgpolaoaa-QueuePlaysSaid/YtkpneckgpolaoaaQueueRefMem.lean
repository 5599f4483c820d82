/-
  The document's queues in memory: one slice of all jobs that were ever put.
-/
import Derived.Test.YtkpneckgpolaoaaQueueAbs
namespace Go.Proofs.Ytkpneckgpolaoaa.QueueRef
open Go.RowKit Queue QueuePkg
set_option maxRecDepth 4000

/-- A job that was put, in memory. -/
structure Rw where
  x : Ld
  v : Value

def Rw.cells (r : Rw) : List Value := [.int .i64 r.x.c, .int .i64 r.x.j.k, .int .i64 r.x.j.l, .int .i64 r.x.j.u, .int .i64 r.x.j.p, r.v, .bool r.x.gone]
def Rw.off (r : Rw) : Rw := { r with x := r.x.off }

theorem Rw.cells_len (r : Rw) : r.cells.length = 7 := rfl
theorem Rw.cells_off (r : Rw) : r.off.cells = r.cells.set 6 (.bool true) := rfl

structure Pl where
  g : Nat
  v : Value
  D : Nat → Prop

def Pl.own (P : Pl) (b : Nat) : Prop := b = P.g ∨ P.v.ownBlock = some b ∨ P.D b

structure Rs (w : World) (P : Pl) (ch : Int) (rs : List Rw) : Prop where
  head : w.heap[P.g]? = some (.cells #[.int .i64 ch, P.v] 53 (0, 0))
  rows : OwnR w 0 61 7 P.v (rs.map Rw.cells)
  data : ∀ r ∈ rs, DatI w P.D r.v r.x.j.d
  g_v : P.v.ownBlock ≠ some P.g
  g_d : ¬ P.D P.g
  v_d : ∀ b, P.v.ownBlock = some b → ¬ P.D b
  d_lt : ∀ b, P.D b → b < w.heap.size

section
variable {w w' : World} {P : Pl} {ch : Int} {rs : List Rw}

theorem Rs.g_lt (h : Rs w P ch rs) : P.g < w.heap.size := (Array.getElem?_eq_some_iff.1 h.head).1

theorem Rs.lt (h : Rs w P ch rs) : ∀ b, P.own b → b < w.heap.size := by
  rintro b (rfl | hb | hb)
  · exact h.g_lt
  · exact h.rows.lt b hb
  · exact h.d_lt b hb

theorem Rs.keep (h : Rs w P ch rs) (hs : w.heap.size ≤ w'.heap.size) (hk : ∀ b, P.own b → w'.heap[b]? = w.heap[b]?) : Rs w' P ch rs :=
  ⟨(hk P.g (.inl rfl)).trans h.head, h.rows.keep fun b hb => hk b (.inr (.inl hb)), fun r hr => (h.data r hr).keep (fun _ h => h) fun b hb => hk b (.inr (.inr hb)), h.g_v, h.g_d, h.v_d, fun b hb => Nat.lt_of_lt_of_le (h.d_lt b hb) hs⟩

theorem Rs.below (h : Rs w P ch rs) (hb : Below w.heap.size w w') : Rs w' P ch rs := h.keep hb.size fun b ho => hb.block b (h.lt b ho)

theorem Rs.turn {O O' : Nat → Prop} (h : Rs w P ch rs) (ht : Turn O O' w w') (hd : ∀ b, P.own b → ¬ O b) : Rs w' P ch rs := h.keep ht.size (ht.kept h.lt hd)

theorem Rs.cells (h : Rs w P ch rs) : w.cell? ⟨P.g, 0, none⟩ = some (.int .i64 ch) ∧ w.cell? ⟨P.g, 1, none⟩ = some P.v := by
  simp [World.cell?, h.head]

theorem Rs.free (h : Rs w P ch rs) (i : Nat) : w.frozen? ⟨P.g, i, none⟩ = false := by
  simp [World.frozen?, h.head]

theorem Rs.slice (h : Rs w P ch rs) : ∃ A c, P.v = .slice A rs.length c ∧ rs.length ≤ c ∧ c ≤ maxLen ∧ (0 < rs.length → ∃ b, A = some ⟨b, 0, none⟩ ∧ b < w.heap.size ∧ b ≠ P.g) := by
  obtain ⟨A, c, h1, h2, h3, h4⟩ := h.rows.form
  rw [List.length_map] at h1 h2 h4
  refine ⟨A, c, h1, h2, h3, fun hl => ?_⟩
  obtain ⟨b, rfl⟩ := h4 hl
  exact ⟨b, rfl, h.rows.lt b (by rw [h1]; rfl), fun e => h.g_v (by rw [h1, ← e]; rfl)⟩

theorem Rs.at_ (h : Rs w P ch rs) {i : Nat} {r : Rw} (hr : rs[i]? = some r) : ∃ b c, P.v = .slice (some ⟨b, 0, none⟩) rs.length c ∧ rs.length ≤ c ∧ c ≤ maxLen ∧ b < w.heap.size ∧ b ≠ P.g ∧ ∀ (j : Nat) x, r.cells[j]? = some x → w.cell? ⟨b, i * 7 + j, none⟩ = some x ∧ w.frozen? ⟨b, i * 7 + j, none⟩ = false := by
  have hl : i < rs.length := (List.getElem?_eq_some_iff.1 hr).1
  obtain ⟨A, c, h1, h2, h3, h4⟩ := h.slice
  obtain ⟨b, rfl, h5, h6⟩ := h4 (by omega)
  refine ⟨b, c, h1, h2, h3, h5, h6, fun j x hx => ?_⟩
  have hrow := h.rows
  rw [h1] at hrow
  exact hrow.cell (by rw [List.getElem?_map, hr]; rfl) hx

/-- A job goes. -/
theorem Rs.set_off (h : Rs w P ch rs) {b c n i : Nat} (hv : P.v = .slice (some ⟨b, 0, none⟩) n c) : Rs (w.setCell ⟨b, i * 7 + 6, none⟩ (.bool true)) P ch (rs.modify i Rw.off) := by
  have hg := grown_setCell w ⟨b, i * 7 + 6, none⟩ (.bool true)
  have hv2 : P.v.ownBlock = some b := by rw [hv]; rfl
  have hk : ∀ k, k < w.heap.size → k ≠ b → (w.setCell ⟨b, i * 7 + 6, none⟩ (.bool true)).heap[k]? = w.heap[k]? := fun k hk hn => hg.block k hk (fun e => hn (by injection e))
  have hrow := h.rows
  rw [hv] at hrow
  have hset := hrow.set i 6 (by omega) (.bool true)
  have e : (rs.map Rw.cells).modify i (·.set 6 (.bool true)) = (rs.modify i Rw.off).map Rw.cells := by
    apply List.ext_getElem?
    intro j
    rw [List.getElem?_modify, List.getElem?_map, List.getElem?_map, List.getElem?_modify]
    cases rs[j]? with
    | none => rfl
    | some r =>
      by_cases hij : i = j
      · simp [hij, Rw.cells_off]
      · simp [hij]
  rw [e, ← hv] at hset
  refine ⟨(hk P.g h.g_lt (fun e => h.g_v (by rw [hv2, e]))).trans h.head, hset, fun r hr => ?_, h.g_v, h.g_d, h.v_d, fun b hb => by simpa using h.d_lt b hb⟩
  obtain ⟨j, hj⟩ := List.getElem?_of_mem hr
  rw [List.getElem?_modify] at hj
  cases hr0 : rs[j]? with
  | none => rw [hr0] at hj; cases hj
  | some r0 =>
    rw [hr0] at hj
    have hd := (h.data r0 (List.mem_of_getElem? hr0)).keep (fun _ h => h) (fun k hb => hk k (h.d_lt k hb) (fun e => h.v_d b hv2 (by rw [← e]; exact hb)))
    injection hj with hj
    split at hj
    · rw [← hj]
      exact hd
    · rw [← hj]
      exact hd
end

/-- A new one. -/
theorem Rs.new (w : World) (ch : Int) : Rs (w.alloc (.cells #[.int .i64 ch, .slice none 0 0] 53)) ⟨w.heap.size, .slice none 0 0, fun _ => False⟩ ch [] :=
  ⟨heap_alloc_new w _, ownR_nil _ _ _ _, fun r hr => by simp at hr, by simp [Value.ownBlock], fun h => h, fun b hb => by simp [Value.ownBlock] at hb, fun b hb => False.elim hb⟩

/-- A job more. -/
theorem Rs.more {w w3 w4 : World} {P : Pl} {ch : Int} {rs : List Rw} (h : Rs w P ch rs) (r : Rw) {base : Nat} (hb3 : Below w.heap.size w w3) (hbase : base = w.heap.size) (ho : OwnI w3 base 3 r.v r.x.j.d) (hz : In64 r.x.j.d) (hd : r.x.j.d.length ≤ 1000000000) (v' : Value) (hrow : OwnR w4 0 61 7 v' (rs.map Rw.cells ++ [r.cells])) (hg : (w3.alloc (.cells r.cells.toArray 61)).grownBy w4 P.v.ownBlock) (hl : ∀ b, v'.ownBlock = some b → P.v.ownBlock = some b ∨ w3.heap.size < b) :
    ∃ P' : Pl, P'.g = P.g ∧ Rs (w4.setCell ⟨P.g, 1, none⟩ v') P' ch (rs ++ [r]) ∧ Turn P.own P'.own w (w4.setCell ⟨P.g, 1, none⟩ v') := by
  subst hbase
  have hsz3 : w.heap.size ≤ w3.heap.size := hb3.size
  have hsz4 : w3.heap.size + 1 ≤ w4.heap.size := by have := hg.size; simpa using this
  have hk4 : ∀ b, b < w3.heap.size → P.v.ownBlock ≠ some b → w4.heap[b]? = w3.heap[b]? := fun b hb hn => by
    rw [hg.block b (by simp; omega) (fun e => hn e.symm), Below.heap_alloc w3 _ b hb]
  have hks : ∀ b, b ≠ P.g → (w4.setCell ⟨P.g, 1, none⟩ v').heap[b]? = w4.heap[b]? := fun b hn => Below.heap_setCell _ _ _ _ hn
  have hgl := h.g_lt
  have hh : w4.heap[P.g]? = some (.cells #[.int .i64 ch, P.v] 53 (0, 0)) := by
    rw [hk4 P.g (by omega) h.g_v, hb3.block P.g hgl]
    exact h.head
  have hog : ∀ b, v'.ownBlock = some b → b ≠ P.g := fun b hb e => (hl b hb).elim (fun h1 => h.g_v (by rw [h1, e])) (fun h1 => by omega)
  obtain ⟨A, c, e1, e2, e3, e4⟩ := LieI.of_own ho hz
  have hdl : ∀ b, w.heap.size ≤ b ∧ b < w3.heap.size → P.v.ownBlock ≠ some b := fun b hb e => by have := h.rows.lt b e; omega
  refine ⟨{ P with v := v', D := fun b => P.D b ∨ (w.heap.size ≤ b ∧ b < w3.heap.size) }, rfl, ⟨?_, ?_, ?_, ?_, ?_, ?_, ?_⟩, ?_⟩
  · simp [World.setCell, Array.getElem?_modify, hh]
  · rw [List.map_append]
    exact hrow.keep fun b hb => hks b (hog b hb)
  · intro q hq
    rcases List.mem_append.1 hq with hq | hq
    · refine (h.data q hq).keep (fun b hb => .inl hb) (fun b hb => ?_)
      have hbl := h.d_lt b hb
      rw [hks b (fun e => h.g_d (by rw [← e]; exact hb)), hk4 b (by omega) (fun e => h.v_d b e hb), hb3.block b hbl]
    · rw [List.mem_singleton.1 hq]
      refine ⟨A, c, e1, e2, e3, hd, e4.keep (fun b hb => .inr hb) (fun b hb => ?_)⟩
      rw [hks b (by omega), hk4 b hb.2 (hdl b hb)]
  · exact fun e => hog P.g e rfl
  · rintro (e | e)
    · exact h.g_d e
    · exact absurd (show w.heap.size ≤ P.g from e.1) (by have := h.g_lt; omega)
  · rintro b hb (hbd | hbd)
    · rcases hl b hb with h1 | h1
      · exact h.v_d b h1 hbd
      · have := h.d_lt b hbd
        omega
    · rcases hl b hb with h1 | h1
      · exact hdl b hbd h1
      · omega
  · rintro b (hb | hb)
    · have := h.d_lt b hb
      simp
      omega
    · simp
      omega
  · refine ⟨hg.os.trans hb3.os, hg.tape.trans hb3.tape, hg.output.trans hb3.output, by simp; omega, fun b hb hn => ?_, ?_⟩
    · rw [hks b (fun e => hn (.inl e)), hk4 b (by omega) (fun e => hn (.inr (.inl e))), hb3.block b hb]
    · rintro b (hb | hb | hb | hb)
      · exact .inl (.inl hb)
      · rcases hl b hb with h1 | h1
        · exact .inl (.inr (.inl h1))
        · exact .inr (by omega)
      · exact .inl (.inr (.inr hb))
      · exact .inr hb.1

/-- The document's queues, told by all that was put. -/
def R (w : World) (P : Pl) (ch : Int) (l : List Ld) : Prop := ∃ rs, Rs w P ch rs ∧ rs.map Rw.x = l

section
variable {w w' : World} {P : Pl} {ch : Int} {l : List Ld}
theorem R.below (h : R w P ch l) (hb : Below w.heap.size w w') : R w' P ch l := by obtain ⟨rs, h1, h2⟩ := h; exact ⟨rs, h1.below hb, h2⟩
theorem R.turn {O O' : Nat → Prop} (h : R w P ch l) (ht : Turn O O' w w') (hd : ∀ b, P.own b → ¬ O b) : R w' P ch l := by obtain ⟨rs, h1, h2⟩ := h; exact ⟨rs, h1.turn ht hd, h2⟩
theorem R.lt (h : R w P ch l) : ∀ b, P.own b → b < w.heap.size := by obtain ⟨rs, h1, _⟩ := h; exact h1.lt
theorem R.new (w : World) (ch : Int) : R (w.alloc (.cells #[.int .i64 ch, .slice none 0 0] 53)) ⟨w.heap.size, .slice none 0 0, fun _ => False⟩ ch [] := ⟨_, Rs.new w ch, rfl⟩
end

end Go.Proofs.Ytkpneckgpolaoaa.QueueRef
