/-
  The document's ring: a slot more, in memory.
-/
import Derived.Test.YtecmmihobojjpaaRingRefE
namespace Go.Proofs.Ytecmmihobojjpaa.RingRef
open Go.RowKit Ring RingPkg
set_option maxRecDepth 4000

/-- append(own, z), the new block of one int just laid; where it lies. -/
theorem run_append_int2 {P : Program} (w : World) (base : Nat) (t ty e : TypeId) (ht : P.underlying t = some (.slice e)) (hi : intInfo P e) (v : Value) (zs : List Int) (hown : OwnI w base e v zs)
    (z : Int) (hlen : zs.length ≤ 1000000000000) (hbase : base ≤ w.heap.size) :
    ∃ v' w', (Builtin.append_ #[t, t] ty #[v, .slice (some ⟨w.heap.size, 0, none⟩) 1 1]).run P (w.alloc (.cells #[.int .i64 z] e)) = .ok v' w' ∧ OwnI w' base e v' (zs ++ [z]) ∧ (w.alloc (.cells #[.int .i64 z] e)).grownBy w' v.ownBlock ∧ (∀ b, v'.ownBlock = some b → v.ownBlock = some b ∨ w.heap.size < b) := by
  obtain ⟨i, hi, hz, hsz, hby⟩ := hi
  have hmx : (140737488355328 : Nat) ≤ maxLen := by decide
  have hsz1 : (w.alloc (.cells #[.int .i64 z] e)).heap.size = w.heap.size + 1 := by simp
  obtain ⟨v', w', hrun, h2, h3, _, h5⟩ := run_append_own_at (P := P) (w.alloc (.cells #[.int .i64 z] e)) base t ty e i (.int .i64 0) 1 8 ht hi hz hsz hby rfl (by omega) v zs.length (zs.map (Value.int .i64)) (hown.alloc _) ⟨w.heap.size, 0, none⟩ 1 1 [.int .i64 z] rfl (nums_of_block w z e)
      (fun u hu => by simp at hu; subst hu; rfl) (by omega) (by omega) (by omega)
  refine ⟨v', w', hrun, ?_, h3, fun b hb => h5.imp (fun h => h.symm.trans hb) (fun h => by rw [hb, hsz1] at h; injection h; omega)⟩
  unfold OwnI
  rw [List.map_append, List.length_append]
  exact h2

theorem Ref.more {w w3 w4 w7 : World} {P : Pl} {size : Int} {all : List (Slot × Int)} (h : Ref w P size all) (s : Slot) (v : Value) {vs : List Value} (hvs : vs.length = all.length) (hdat : ∀ (i : Nat) x y, all[i]? = some x → vs[i]? = some y → Dat w P.D y x.1.d)
    (hb3 : Below w.heap.size w w3) (ho : Own w3 w.heap.size 5 v s.d) (hd : s.d.length ≤ 100000000000000) (v' u' : Value)
    (hrow : OwnR w4 0 35 5 v' (List.zipWith (fun x v => scells x.1 v) all vs ++ [scells s v])) (hg4 : (w3.alloc (.cells (scells s v).toArray 35)).grownBy w4 P.v.ownBlock) (hl4 : ∀ b, v'.ownBlock = some b → P.v.ownBlock = some b ∨ w3.heap.size < b)
    (hg7 : ((w4.setCell ⟨P.g, 1, none⟩ v').alloc (.cells #[.int .i64 0] 3)).grownBy w7 P.u.ownBlock) (hint : OwnI w7 0 3 u' (all.map (·.2) ++ [0])) (hl7 : ∀ b, u'.ownBlock = some b → P.u.ownBlock = some b ∨ w4.heap.size < b) :
    ∃ P' : Pl, P'.g = P.g ∧ Ref (w7.setCell ⟨P.g, 2, none⟩ u') P' size (all ++ [(s, 0)]) ∧ Turn P.own P'.own w (w7.setCell ⟨P.g, 2, none⟩ u') := by
  have hgl := h.g_lt
  have hs3 : w.heap.size ≤ w3.heap.size := hb3.size
  have hs4 : w3.heap.size + 1 ≤ w4.heap.size := by have := hg4.size; simpa using this
  have hs7 : w4.heap.size + 1 ≤ w7.heap.size := by have := hg7.size; simpa using this
  have hvl : ∀ b, P.v.ownBlock = some b → b < w.heap.size := fun b hb => h.lt b (.inr (.inl hb))
  have hul : ∀ b, P.u.ownBlock = some b → b < w.heap.size := fun b hb => h.lt b (.inr (.inr (.inl hb)))
  have k4 : ∀ b, b < w3.heap.size → P.v.ownBlock ≠ some b → w4.heap[b]? = w3.heap[b]? := fun b hb hn => by
    rw [hg4.block b (by simp; omega) (fun e => hn e.symm), Below.heap_alloc w3 _ b hb]
  have k5 : ∀ b, b ≠ P.g → (w4.setCell ⟨P.g, 1, none⟩ v').heap[b]? = w4.heap[b]? := fun b hn => Below.heap_setCell _ _ _ _ hn
  have k7 : ∀ b, b < w4.heap.size → P.u.ownBlock ≠ some b → w7.heap[b]? = (w4.setCell ⟨P.g, 1, none⟩ v').heap[b]? := fun b hb hn => by
    rw [hg7.block b (by simp; omega) (fun e => hn e.symm), Below.heap_alloc _ _ b (by simpa using hb)]
  have k8 : ∀ b, b ≠ P.g → (w7.setCell ⟨P.g, 2, none⟩ u').heap[b]? = w7.heap[b]? := fun b hn => Below.heap_setCell _ _ _ _ hn
  have hv'g : ∀ b, v'.ownBlock = some b → b ≠ P.g := fun b hb e => (hl4 b hb).elim (fun h1 => h.g_v (by rw [h1, e])) (fun h1 => by omega)
  have hu'g : ∀ b, u'.ownBlock = some b → b ≠ P.g := fun b hb e => (hl7 b hb).elim (fun h1 => h.g_u (by rw [h1, e])) (fun h1 => by omega)
  have hv'u : ∀ b, v'.ownBlock = some b → P.u.ownBlock ≠ some b := fun b hb e => (hl4 b hb).elim (fun h1 => h.v_u b h1 e) (fun h1 => by have := hul b e; omega)
  have hv'lt : ∀ b, v'.ownBlock = some b → b < w4.heap.size := fun b hb => hrow.lt b hb
  have hh4 : w4.heap[P.g]? = some (.cells #[.int .i64 size, P.v, P.u] 60 (0, 0)) := by
    rw [k4 P.g (by omega) h.g_v, hb3.block P.g hgl]
    exact h.head
  have hh5 : (w4.setCell ⟨P.g, 1, none⟩ v').heap[P.g]? = some (.cells #[.int .i64 size, v', P.u] 60 (0, 0)) := by simp [World.setCell, Array.getElem?_modify, hh4]
  have hh7 : w7.heap[P.g]? = some (.cells #[.int .i64 size, v', P.u] 60 (0, 0)) := by
    rw [k7 P.g (by omega) h.g_u]
    exact hh5
  obtain ⟨A, c, e1, e2, e3, e4⟩ := Lie.of_own ho
  have old : ∀ b, b < w3.heap.size → b ≠ P.g → P.v.ownBlock ≠ some b → P.u.ownBlock ≠ some b → (w7.setCell ⟨P.g, 2, none⟩ u').heap[b]? = w3.heap[b]? := fun b hb hn hv hu => by
    rw [k8 b hn, k7 b (by omega) hu, k5 b hn, k4 b hb hv]
  refine ⟨⟨P.g, v', u', fun b => P.D b ∨ (w.heap.size ≤ b ∧ b < w3.heap.size)⟩, rfl, ⟨?_, ⟨vs ++ [v], by simp [hvs], ?_, ?_⟩, ?_, ?_, ?_, ?_, ?_, ?_, ?_, ?_⟩, ?_⟩
  · simp [World.setCell, Array.getElem?_modify, hh7]
  · rw [List.zipWith_append hvs.symm]
    exact hrow.keep fun b hb => by rw [k8 b (hv'g b hb), k7 b (hv'lt b hb) (hv'u b hb), k5 b (hv'g b hb)]
  · intro i x y hx hy
    rcases Nat.lt_or_ge i all.length with hi | hi
    · rw [List.getElem?_append_left hi] at hx
      rw [List.getElem?_append_left (by omega)] at hy
      refine (hdat i x y hx hy).keep (fun b hb => .inl hb) (fun b hb => ?_)
      have hbl := h.d_lt b hb
      rw [old b (by omega) (fun e => h.g_d (by rw [← e]; exact hb)) (fun e => h.v_d b e hb) (fun e => h.u_d b e hb), hb3.block b hbl]
    · rw [List.getElem?_append_right hi] at hx
      rw [List.getElem?_append_right (by omega)] at hy
      have hz : i - all.length = 0 := by
        have := (List.getElem?_eq_some_iff.1 hx).1
        simp at this
        omega
      rw [hz] at hx
      rw [hvs, hz] at hy
      simp at hx hy
      subst hx hy
      refine ⟨A, c, e1, e2, e3, hd, e4.keep (fun b hb => .inr hb) (fun b hb => ?_)⟩
      exact old b hb.2 (by omega) (fun e => by have := hvl b e; omega) (fun e => by have := hul b e; omega)
  · rw [List.map_append]
    exact hint.keep fun b hb => k8 b (hu'g b hb)
  · exact fun e => hv'g P.g e rfl
  · exact fun e => hu'g P.g e rfl
  · intro b hb e
    rcases hl7 b e with h1 | h1
    · exact hv'u b hb h1
    · have := hv'lt b hb
      omega
  · rintro (e | e)
    · exact h.g_d e
    · exact absurd (show w.heap.size ≤ P.g from e.1) (by omega)
  · rintro b hb (hbd | hbd)
    · rcases hl4 b hb with h1 | h1
      · exact h.v_d b h1 hbd
      · have := h.d_lt b hbd
        omega
    · rcases hl4 b hb with h1 | h1
      · have := hvl b h1
        omega
      · omega
  · rintro b hb (hbd | hbd)
    · rcases hl7 b hb with h1 | h1
      · exact h.u_d b h1 hbd
      · have := h.d_lt b hbd
        omega
    · rcases hl7 b hb with h1 | h1
      · have := hul b h1
        omega
      · omega
  · rintro b (hb | hb)
    · have := h.d_lt b hb
      simp
      omega
    · simp
      omega
  · refine ⟨(hg7.os.trans hg4.os).trans hb3.os, (hg7.tape.trans hg4.tape).trans hb3.tape, (hg7.output.trans hg4.output).trans hb3.output, by simp; omega, fun b hb hn => ?_, ?_⟩
    · rw [old b (by omega) (fun e => hn (.inl e)) (fun e => hn (.inr (.inl e))) (fun e => hn (.inr (.inr (.inl e)))), hb3.block b hb]
    · rintro b (hb | hb | hb | hb | hb)
      · exact .inl (.inl hb)
      · rcases hl4 b hb with h1 | h1
        · exact .inl (.inr (.inl h1))
        · exact .inr (by omega)
      · rcases hl7 b hb with h1 | h1
        · exact .inl (.inr (.inr (.inl h1)))
        · exact .inr (by omega)
      · exact .inl (.inr (.inr (.inr hb)))
      · exact .inr hb.1
end Go.Proofs.Ytecmmihobojjpaa.RingRef
