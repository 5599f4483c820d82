/-
  The queues of package queue in memory: which blocks they lie in, what they hold, and what keeps them.
-/
import Derived.Test.YtkpneckgpolaoaaQueueMath
import Derived.Test.YtkpneckgpolaoaaRowsOff
import Derived.Test.YtkpneckgpolaoaaLieI
import Derived.Test.YtkpneckgpolaoaaFive
import Derived.Test.YtkpneckgpolaoaaTurn
import Derived.Test.YtkpneckgpolaoaaChecked
namespace Go.Proofs.Ytkpneckgpolaoaa.QueuePkg
open Go.RowKit Queue
set_option maxRecDepth 4000

abbrev ptr (g : Nat) : Value := .pointer (some ⟨g, 0, none⟩)
abbrev jobV (j : Jb) (v : Value) : Value := .agg #[.int .i64 j.k, .int .i64 j.l, .int .i64 j.u, .int .i64 j.p, v]

/-- A job in memory: what it is, and the value of its positions. -/
structure Row where
  j : Jb
  v : Value

def Row.cells (r : Row) : List Value := [.int .i64 r.j.k, .int .i64 r.j.l, .int .i64 r.j.u, .int .i64 r.j.p, r.v]

theorem Row.cells_len (r : Row) : r.cells.length = 5 := rfl

/-- The blocks of the queues: their own, the jobs' of each channel, the positions'. -/
structure Pl where
  g : Nat
  v : Nat → Value
  D : Nat → Prop

def Pl.own (P : Pl) (b : Nat) : Prop := b = P.g ∨ (∃ c, c < 4 ∧ (P.v c).ownBlock = some b) ∨ P.D b

/-- Queues in memory: of so many channels, the jobs of each. -/
structure Qs (w : World) (P : Pl) (ch : Int) (rs : Nat → List Row) : Prop where
  head : w.heap[P.g]? = some (.cells #[.int .i64 ch, P.v 0, P.v 1, P.v 2, P.v 3] 50 (0, 0))
  rows : ∀ c, c < 4 → OffR w 0 32 5 (P.v c) ((rs c).map Row.cells)
  data : ∀ c, c < 4 → ∀ r ∈ rs c, DatI w P.D r.v r.j.d
  g_v : ∀ c, c < 4 → (P.v c).ownBlock ≠ some P.g
  v_v : ∀ c d, c < 4 → d < 4 → c ≠ d → ∀ b, (P.v c).ownBlock = some b → (P.v d).ownBlock ≠ some b
  g_d : ¬ P.D P.g
  v_d : ∀ c, c < 4 → ∀ b, (P.v c).ownBlock = some b → ¬ P.D b
  d_lt : ∀ b, P.D b → b < w.heap.size
  bare : ∀ c : Nat, ch ≤ (c : Int) → c < 4 → rs c = []
  pos : 1 ≤ ch
  top : ch ≤ 4

section
variable {w w' : World} {P : Pl} {ch : Int} {rs : Nat → List Row}

theorem Qs.g_lt (h : Qs w P ch rs) : P.g < w.heap.size := (Array.getElem?_eq_some_iff.1 h.head).1

theorem Qs.lt (h : Qs w P ch rs) : ∀ b, P.own b → b < w.heap.size := by
  rintro b (rfl | ⟨c, hc, hb⟩ | hb)
  · exact h.g_lt
  · exact (h.rows c hc).lt b hb
  · exact h.d_lt b hb

theorem Qs.keep (h : Qs w P ch rs) (hs : w.heap.size ≤ w'.heap.size) (hk : ∀ b, P.own b → w'.heap[b]? = w.heap[b]?) : Qs w' P ch rs :=
  ⟨(hk P.g (.inl rfl)).trans h.head, fun c hc => (h.rows c hc).keep fun b hb => hk b (.inr (.inl ⟨c, hc, hb⟩)), fun c hc r hr => (h.data c hc r hr).keep (fun _ h => h) fun b hb => hk b (.inr (.inr hb)), h.g_v, h.v_v, h.g_d, h.v_d, fun b hb => Nat.lt_of_lt_of_le (h.d_lt b hb) hs, h.bare, h.pos, h.top⟩

theorem Qs.below (h : Qs w P ch rs) (hb : Below w.heap.size w w') : Qs w' P ch rs := h.keep hb.size fun b ho => hb.block b (h.lt b ho)

theorem Qs.turn {O O' : Nat → Prop} (h : Qs w P ch rs) (ht : Turn O O' w w') (hd : ∀ b, P.own b → ¬ O b) : Qs w' P ch rs := h.keep ht.size (ht.kept h.lt hd)

theorem Qs.drew (h : Qs w P ch rs) : Qs w.drew P ch rs := h.keep (Nat.le_refl _) (fun _ _ => rfl)

/-- The cells of their own block. -/
theorem Qs.cells (h : Qs w P ch rs) : w.cell? ⟨P.g, 0, none⟩ = some (.int .i64 ch) ∧ w.cell? ⟨P.g, 1, none⟩ = some (P.v 0) ∧ w.cell? ⟨P.g, 2, none⟩ = some (P.v 1) ∧ w.cell? ⟨P.g, 3, none⟩ = some (P.v 2) ∧ w.cell? ⟨P.g, 4, none⟩ = some (P.v 3) := by
  simp [World.cell?, h.head]

theorem Qs.cell (h : Qs w P ch rs) {c : Nat} (hc : c < 4) : w.cell? ⟨P.g, 1 + c, none⟩ = some (P.v c) := by
  have : c = 0 ∨ c = 1 ∨ c = 2 ∨ c = 3 := by omega
  rcases this with rfl | rfl | rfl | rfl
  · exact h.cells.2.1
  · exact h.cells.2.2.1
  · exact h.cells.2.2.2.1
  · exact h.cells.2.2.2.2

theorem Qs.free (h : Qs w P ch rs) (i : Nat) : w.frozen? ⟨P.g, i, none⟩ = false := by
  simp [World.frozen?, h.head]

/-- The slice of a channel's jobs. -/
theorem Qs.slice (h : Qs w P ch rs) {c : Nat} (hc : c < 4) : ∃ A k, P.v c = .slice A (rs c).length k ∧ (rs c).length ≤ k ∧ k ≤ maxLen ∧ (0 < (rs c).length → ∃ b off, A = some ⟨b, off, none⟩ ∧ b < w.heap.size ∧ b ≠ P.g) := by
  obtain ⟨A, k, h1, h2, h3, h4⟩ := (h.rows c hc).form
  rw [List.length_map] at h1 h2 h4
  refine ⟨A, k, h1, h2, h3, fun hl => ?_⟩
  obtain ⟨b, off, rfl⟩ := h4 hl
  exact ⟨b, off, rfl, (h.rows c hc).lt b (by rw [h1]; rfl), fun e => h.g_v c hc (by rw [h1, ← e]; rfl)⟩

/-- The cells of a job. -/
theorem Qs.at_ (h : Qs w P ch rs) {c : Nat} (hc : c < 4) {i : Nat} {r : Row} (hr : (rs c)[i]? = some r) : ∃ b off k, P.v c = .slice (some ⟨b, off, none⟩) (rs c).length k ∧ (rs c).length ≤ k ∧ k ≤ maxLen ∧ b < w.heap.size ∧ b ≠ P.g ∧ ∀ (j : Nat) x, r.cells[j]? = some x → w.cell? ⟨b, off + i * 5 + j, none⟩ = some x ∧ w.frozen? ⟨b, off + i * 5 + j, none⟩ = false := by
  have hl : i < (rs c).length := (List.getElem?_eq_some_iff.1 hr).1
  obtain ⟨A, k, h1, h2, h3, h4⟩ := h.slice hc
  obtain ⟨b, off, rfl, h5, h6⟩ := h4 (by omega)
  refine ⟨b, off, k, h1, h2, h3, h5, h6, fun j x hx => ?_⟩
  have hrow := h.rows c hc
  rw [h1] at hrow
  exact hrow.cell (by rw [List.getElem?_map, hr]; rfl) hx

theorem head_set {ch : Int} {v : Nat → Value} {g : Nat} {t : TypeId} (hh : w.heap[g]? = some (.cells #[.int .i64 ch, v 0, v 1, v 2, v 3] t (0, 0))) {c : Nat} (hc : c < 4) (x : Value) :
    (w.setCell ⟨g, 1 + c, none⟩ x).heap[g]? = some (.cells #[.int .i64 ch, (if 0 = c then x else v 0), (if 1 = c then x else v 1), (if 2 = c then x else v 2), (if 3 = c then x else v 3)] t (0, 0)) := by
  have : c = 0 ∨ c = 1 ∨ c = 2 ∨ c = 3 := by omega
  rcases this with rfl | rfl | rfl | rfl <;> simp [World.setCell, Array.getElem?_modify, hh]
end

/-- New ones. -/
theorem Qs.new (w : World) (ch : Int) (h1 : 1 ≤ ch) (h4 : ch ≤ 4) : Qs (w.alloc (.cells #[.int .i64 ch, .slice none 0 0, .slice none 0 0, .slice none 0 0, .slice none 0 0] 50)) ⟨w.heap.size, fun _ => .slice none 0 0, fun _ => False⟩ ch (fun _ => []) :=
  ⟨heap_alloc_new w _, fun _ _ => offR_nil _ _ _ _, fun _ _ r hr => by simp at hr, fun _ _ => by simp [Value.ownBlock], fun _ _ _ _ _ b hb => by simp [Value.ownBlock] at hb, fun h => h, fun _ _ b hb => by simp [Value.ownBlock] at hb, fun b hb => False.elim hb, fun _ _ _ => rfl, h1, h4⟩

/-- A job more, of channel c. -/
theorem Qs.more {w w3 w4 : World} {P : Pl} {ch : Int} {rs : Nat → List Row} (h : Qs w P ch rs) {c : Nat} (hc : c < 4) (hcc : (c : Int) < ch) (r : Row) {base : Nat} (hb3 : Below w.heap.size w w3) (hbase : base = w.heap.size) (ho : OwnI w3 base 3 r.v r.j.d) (hz : In64 r.j.d) (hd : r.j.d.length ≤ 1000000000) (v' : Value) (hrow : OffR w4 0 32 5 v' ((rs c).map Row.cells ++ [r.cells])) (hg : (w3.alloc (.cells r.cells.toArray 32)).grownBy w4 (P.v c).ownBlock) (hl : ∀ b, v'.ownBlock = some b → (P.v c).ownBlock = some b ∨ w3.heap.size < b) :
    ∃ P' : Pl, P'.g = P.g ∧ Qs (w4.setCell ⟨P.g, 1 + c, none⟩ v') P' ch (fun i => if i = c then rs c ++ [r] else rs i) ∧ Turn P.own P'.own w (w4.setCell ⟨P.g, 1 + c, none⟩ v') := by
  subst hbase
  have hsz3 : w.heap.size ≤ w3.heap.size := hb3.size
  have hsz4 : w3.heap.size + 1 ≤ w4.heap.size := by have := hg.size; simpa using this
  have hk4 : ∀ b, b < w3.heap.size → (P.v c).ownBlock ≠ some b → w4.heap[b]? = w3.heap[b]? := fun b hb hn => by
    rw [hg.block b (by simp; omega) (fun e => hn e.symm), Below.heap_alloc w3 _ b hb]
  have hks : ∀ b, b ≠ P.g → (w4.setCell ⟨P.g, 1 + c, none⟩ v').heap[b]? = w4.heap[b]? := fun b hn => Below.heap_setCell _ _ _ _ hn
  have hgl := h.g_lt
  have hh : w4.heap[P.g]? = some (.cells #[.int .i64 ch, P.v 0, P.v 1, P.v 2, P.v 3] 50 (0, 0)) := by
    rw [hk4 P.g (by omega) (h.g_v c hc), hb3.block P.g hgl]
    exact h.head
  have hold : ∀ b, b < w.heap.size → b ≠ P.g → (P.v c).ownBlock ≠ some b → (w4.setCell ⟨P.g, 1 + c, none⟩ v').heap[b]? = w.heap[b]? := fun b hb hn hv => by
    rw [hks b hn, hk4 b (by omega) hv, hb3.block b hb]
  have hog : ∀ b, v'.ownBlock = some b → b ≠ P.g := fun b hb e => (hl b hb).elim (fun h1 => h.g_v c hc (by rw [h1, e])) (fun h1 => by omega)
  have hvl : ∀ d, d < 4 → ∀ b, (P.v d).ownBlock = some b → b < w.heap.size := fun d hd b hb => (h.rows d hd).lt b hb
  obtain ⟨A, k, e1, e2, e3, e4⟩ := LieI.of_own ho hz
  refine ⟨{ P with v := fun i => if i = c then v' else P.v i, D := fun b => P.D b ∨ (w.heap.size ≤ b ∧ b < w3.heap.size) }, rfl, ⟨?_, ?_, ?_, ?_, ?_, ?_, ?_, ?_, ?_, h.pos, h.top⟩, ?_⟩
  · exact head_set hh hc v'
  · intro i hi
    by_cases e : i = c
    · simp only [e, if_true, List.map_append]
      exact hrow.keep fun b hb => hks b (hog b hb)
    · simp only [e, if_false]
      exact (h.rows i hi).keep fun b hb => hold b (hvl i hi b hb) (fun e => h.g_v i hi (by rw [hb, e])) (fun e1 => h.v_v i c hi hc e b hb e1)
  · have hdat : ∀ i, i < 4 → ∀ q ∈ rs i, DatI (w4.setCell ⟨P.g, 1 + c, none⟩ v') (fun b => P.D b ∨ (w.heap.size ≤ b ∧ b < w3.heap.size)) q.v q.j.d := fun i hi q hq =>
      (h.data i hi q hq).keep (fun b hb => .inl hb) (fun b hb => hold b (h.d_lt b hb) (fun e => h.g_d (by rw [← e]; exact hb)) (fun e => h.v_d c hc b e hb))
    intro i hi q hq
    by_cases e : i = c
    · simp only [e, if_true] at hq
      rcases List.mem_append.1 hq with hq | hq
      · exact hdat c hc q hq
      · rw [List.mem_singleton.1 hq]
        refine ⟨A, k, e1, e2, e3, hd, e4.keep (fun b hb => .inr hb) (fun b hb => ?_)⟩
        rw [hks b (by omega), hk4 b hb.2 (fun e => by have := hvl c hc b e; omega)]
    · simp only [e, if_false] at hq
      exact hdat i hi q hq
  · intro i hi
    by_cases e : i = c
    · simp only [e, if_true]
      exact fun e => hog P.g e rfl
    · simp only [e, if_false]
      exact h.g_v i hi
  · intro i j hi hj hij b hb
    by_cases e : i = c
    · have e2 : j ≠ c := fun e3 => hij (e.trans e3.symm)
      simp only [e, if_true] at hb
      simp only [e2, if_false]
      rcases hl b hb with h1 | h1
      · exact h.v_v c j hc hj (fun e => e2 e.symm) b h1
      · exact fun e3 => by have := hvl j hj b e3; omega
    · simp only [e, if_false] at hb
      by_cases e2 : j = c
      · simp only [e2, if_true]
        intro e3
        rcases hl b e3 with h1 | h1
        · exact h.v_v i c hi hc e b hb h1
        · have := hvl i hi b hb
          omega
      · simp only [e2, if_false]
        exact h.v_v i j hi hj hij b hb
  · rintro (e | e)
    · exact h.g_d e
    · exact absurd (show w.heap.size ≤ P.g from e.1) (by omega)
  · intro i hi b hb
    have hb2 : (P.v i).ownBlock = some b ∨ (i = c ∧ ((P.v c).ownBlock = some b ∨ w3.heap.size < b)) := by
      by_cases e : i = c
      · simp only [e, if_true] at hb
        exact .inr ⟨e, hl b hb⟩
      · simp only [e, if_false] at hb
        exact .inl hb
    have hb3 : (∃ d, d < 4 ∧ (P.v d).ownBlock = some b) ∨ w3.heap.size < b := by
      rcases hb2 with h1 | ⟨_, h1 | h1⟩
      · exact .inl ⟨i, hi, h1⟩
      · exact .inl ⟨c, hc, h1⟩
      · exact .inr h1
    rintro (hbd | hbd)
    · rcases hb3 with ⟨d, hd, h1⟩ | h1
      · exact h.v_d d hd b h1 hbd
      · have := h.d_lt b hbd
        omega
    · rcases hb3 with ⟨d, hd, h1⟩ | h1
      · have := hvl d hd b h1
        omega
      · omega
  · rintro b (hb | hb)
    · have := h.d_lt b hb
      simp
      omega
    · simp
      omega
  · intro i hi hi4
    rw [if_neg (by omega)]
    exact h.bare i hi hi4
  · refine ⟨hg.os.trans hb3.os, hg.tape.trans hb3.tape, hg.output.trans hb3.output, by simp; omega, fun b hb hn => ?_, ?_⟩
    · exact hold b hb (fun e => hn (.inl e)) (fun e => hn (.inr (.inl ⟨c, hc, e⟩)))
    · rintro b (hb | ⟨i, hi, hb⟩ | hb | hb)
      · exact .inl (.inl hb)
      · by_cases e : i = c
        · simp only [e, if_true] at hb
          rcases hl b hb with h1 | h1
          · exact .inl (.inr (.inl ⟨c, hc, h1⟩))
          · exact .inr (by omega)
        · simp only [e, if_false] at hb
          exact .inl (.inr (.inl ⟨i, hi, hb⟩))
      · exact .inl (.inr (.inr hb))
      · exact .inr hb.1

/-- The first job of channel c gone. -/
theorem Qs.drop {w w4 : World} {P : Pl} {ch : Int} {rs : Nat → List Row} (h : Qs w P ch rs) {c : Nat} (hc : c < 4) (h0 : 0 < (rs c).length) {b off n k : Nat} (hv : P.v c = .slice (some ⟨b, off, none⟩) n k) {A : Option Addr}
    (hA : A = some ⟨b, if k = 1 then off else off + 5, none⟩) (hg : w.grownBy w4 (some b)) {cur' : Array Value} (hh : w4.heap[b]? = some (.cells cur' 32 (0, 0))) (hk : ∀ cur, w.heap[b]? = some (.cells cur 32 (0, 0)) → cur'.size = cur.size ∧ ∀ i, off + 5 ≤ i → cur'[i]? = cur[i]?) :
    ∃ P' : Pl, P'.g = P.g ∧ Qs (w4.setCell ⟨P.g, 1 + c, none⟩ (.slice A (n - 1) (k - 1))) P' ch (fun i => if i = c then (rs c).drop 1 else rs i) ∧ Turn P.own P'.own w (w4.setCell ⟨P.g, 1 + c, none⟩ (.slice A (n - 1) (k - 1))) := by
  have hvb : (P.v c).ownBlock = some b := by rw [hv]; rfl
  have hbg : b ≠ P.g := fun e => h.g_v c hc (by rw [hvb, e])
  have hks : ∀ q, q ≠ P.g → (w4.setCell ⟨P.g, 1 + c, none⟩ (.slice A (n - 1) (k - 1))).heap[q]? = w4.heap[q]? := fun q hn => Below.heap_setCell _ _ _ _ hn
  have hk4 : ∀ q, q < w.heap.size → q ≠ b → w4.heap[q]? = w.heap[q]? := fun q hq hn => hg.block q hq (fun e => hn (by injection e))
  have hold : ∀ q, q < w.heap.size → q ≠ P.g → q ≠ b → (w4.setCell ⟨P.g, 1 + c, none⟩ (.slice A (n - 1) (k - 1))).heap[q]? = w.heap[q]? := fun q hq hn hv => by rw [hks q hn, hk4 q hq hv]
  have hvl : ∀ d, d < 4 → ∀ q, (P.v d).ownBlock = some q → q < w.heap.size := fun d hd q hq => (h.rows d hd).lt q hq
  have hrow := h.rows c hc
  rw [hv] at hrow
  have hr2 := hrow.rest (by rw [List.length_map]; exact h0) hA hh hk
  rw [← List.map_drop] at hr2
  have hAb : ∀ q, (Value.slice A (n - 1) (k - 1)).ownBlock = some q → q = b := fun q hq => by
    rw [hA] at hq
    simp [Value.ownBlock] at hq
    exact hq.symm
  refine ⟨{ P with v := fun i => if i = c then .slice A (n - 1) (k - 1) else P.v i }, rfl, ⟨?_, ?_, ?_, ?_, ?_, h.g_d, ?_, ?_, ?_, h.pos, h.top⟩, ?_⟩
  · exact head_set (by rw [hk4 P.g h.g_lt (fun e => hbg e.symm)]; exact h.head) hc _
  · intro i hi
    by_cases e : i = c
    · simp only [e, if_true]
      exact hr2.keep fun q hq => hks q (by rw [hAb q hq]; exact hbg)
    · simp only [e, if_false]
      exact (h.rows i hi).keep fun q hq => hold q (hvl i hi q hq) (fun e => h.g_v i hi (by rw [hq, e])) (fun e1 => h.v_v i c hi hc e q hq (by rw [hvb, e1]))
  · have hdat : ∀ i, i < 4 → ∀ q ∈ rs i, DatI (w4.setCell ⟨P.g, 1 + c, none⟩ (.slice A (n - 1) (k - 1))) P.D q.v q.j.d := fun i hi q hq =>
      (h.data i hi q hq).keep (fun b hb => hb) (fun q hq => hold q (h.d_lt q hq) (fun e => h.g_d (by rw [← e]; exact hq)) (fun e => h.v_d c hc b hvb (by rw [← e]; exact hq)))
    intro i hi q hq
    by_cases e : i = c
    · simp only [e, if_true] at hq
      exact hdat c hc q (List.mem_of_mem_drop hq)
    · simp only [e, if_false] at hq
      exact hdat i hi q hq
  · intro i hi
    by_cases e : i = c
    · simp only [e, if_true]
      exact fun e => hbg (hAb _ e).symm
    · simp only [e, if_false]
      exact h.g_v i hi
  · intro i j hi hj hij q hq
    by_cases e : i = c
    · have e2 : j ≠ c := fun e3 => hij (e.trans e3.symm)
      simp only [e, if_true] at hq
      simp only [e2, if_false]
      rw [hAb q hq]
      exact h.v_v c j hc hj (fun e => e2 e.symm) b hvb
    · simp only [e, if_false] at hq
      by_cases e2 : j = c
      · simp only [e2, if_true]
        intro e3
        rw [hAb q e3] at hq
        exact h.v_v i c hi hc e b hq hvb
      · simp only [e2, if_false]
        exact h.v_v i j hi hj hij q hq
  · intro i hi q hq
    by_cases e : i = c
    · simp only [e, if_true] at hq
      rw [hAb q hq]
      exact h.v_d c hc b hvb
    · simp only [e, if_false] at hq
      exact h.v_d i hi q hq
  · intro q hq
    have := h.d_lt q hq
    have := hg.size
    simp
    omega
  · intro i hi hi4
    by_cases e : i = c
    · subst e
      simp only [if_true]
      rw [h.bare i hi hi4]
      rfl
    · simp only [e, if_false]
      exact h.bare i hi hi4
  · refine ⟨hg.os, hg.tape, hg.output, by have := hg.size; simp; omega, fun q hq hn => ?_, ?_⟩
    · exact hold q hq (fun e => hn (.inl e)) (fun e => hn (.inr (.inl ⟨c, hc, by rw [hvb, e]⟩)))
    · rintro q (hq | ⟨i, hi, hq⟩ | hq)
      · exact .inl (.inl hq)
      · by_cases e : i = c
        · simp only [e, if_true] at hq
          exact .inl (.inr (.inl ⟨c, hc, by rw [hvb, hAb q hq]⟩))
        · simp only [e, if_false] at hq
          exact .inl (.inr (.inl ⟨i, hi, hq⟩))
      · exact .inl (.inr (.inr hq))

theorem five_set4 {w : World} {g : Nat} {t : TypeId} {x0 x1 x2 x3 x4 : Value} (h : Five w g t x0 x1 x2 x3 x4) (y : Value) : Five (w.setCell ⟨g, 4, none⟩ y) g t x0 x1 x2 x3 y := by
  unfold Five at h ⊢
  simp [World.setCell, Array.getElem?_modify, h]

/-- Queues as what they hold. -/
def Q (w : World) (P : Pl) (ch : Int) (q : Js) : Prop := ∃ rs, Qs w P ch rs ∧ ∀ c, (rs c).map Row.j = q c

section
variable {w w' : World} {P : Pl} {ch : Int} {q : Js}
theorem Q.below (h : Q w P ch q) (hb : Below w.heap.size w w') : Q w' P ch q := by obtain ⟨rs, h1, h2⟩ := h; exact ⟨rs, h1.below hb, h2⟩
theorem Q.turn {O O' : Nat → Prop} (h : Q w P ch q) (ht : Turn O O' w w') (hd : ∀ b, P.own b → ¬ O b) : Q w' P ch q := by obtain ⟨rs, h1, h2⟩ := h; exact ⟨rs, h1.turn ht hd, h2⟩
theorem Q.lt (h : Q w P ch q) : ∀ b, P.own b → b < w.heap.size := by obtain ⟨rs, h1, _⟩ := h; exact h1.lt
end

end Go.Proofs.Ytkpneckgpolaoaa.QueuePkg
