/-
  The document's map of layer 11 in memory, and what its calls do: Get, Live, addr, Many.
-/
import Derived.Test.YtpheblblkkclbaaL2pLines
import Derived.Test.YtpheblblkkclbaaRowsOwn
import Derived.Test.YtpheblblkkclbaaGeomRef
namespace Go.Proofs.Ytpheblblkkclbaa.L2pRef
open Go.RowKit Go.ChangeShapes L2p L2pPkg
open Nand (Shape)
set_option maxRecDepth 4000

def rowsOf (st : St) (n : Nat) : List (List Value) := (List.range n).map fun i => entL (st i)

theorem rowsOf_len (st : St) (n : Nat) : (rowsOf st n).length = n := by simp [rowsOf]
theorem rowsOf_at (st : St) {n i : Nat} (h : i < n) : (rowsOf st n)[i]? = some (entL (st i)) := by simp [rowsOf, h]

theorem rowsOf_put (st : St) {n i : Nat} (h : i < n) (e : Ent) : rowsOf (put st i e) n = (rowsOf st n).set i (entL e) := by
  apply List.ext_getElem?
  intro k
  by_cases hk : k < n
  · rw [rowsOf_at _ hk]
    by_cases e1 : i = k
    · subst e1
      rw [List.getElem?_set_self (by rw [rowsOf_len]; exact h), put_same]
    · rw [List.getElem?_set_ne e1, rowsOf_at _ hk, put_other (fun e2 => e1 e2.symm)]
  · rw [List.getElem?_eq_none (by rw [rowsOf_len]; omega), List.getElem?_eq_none (by rw [List.length_set, rowsOf_len]; omega)]

/-- Where it lies: its block, and its entries' block and capacity. -/
structure Pr where
  r : Nat
  g : Nat
  cp : Nat

def Pr.own (Q : Pr) (b : Nat) : Prop := b = Q.r ∨ b = Q.g

/-- Block Q.r holds the document's map over the geometry G of n sectors, whose entries are st. -/
structure Rf (G : Shape) (n : Nat) (w : World) (Q : Pr) (st : St) : Prop where
  head : w.heap[Q.r]? = some (.cells #[.int .i64 G.c, .int .i64 G.l, .int .i64 G.k, .int .i64 G.p, .int .i64 G.s, .slice (some ⟨Q.g, 0, none⟩) n Q.cp] 74 (0, 0))
  row : OwnR w 0 30 3 (.slice (some ⟨Q.g, 0, none⟩) n Q.cp) (rowsOf st n)
  ne : Q.r ≠ Q.g
  inv : Inv st n G.N
  n0 : 0 < n
  n1 : n ≤ 4096

section
variable {G : Shape} {n : Nat} {w w' : World} {Q : Pr} {st : St}

theorem Rf.lt (h : Rf G n w Q st) : ∀ b, Q.own b → b < w.heap.size := by
  rintro b (rfl | rfl)
  · exact (Array.getElem?_eq_some_iff.1 h.head).1
  · exact h.row.lt _ rfl

theorem Rf.keep (h : Rf G n w Q st) (hk : ∀ b, Q.own b → w'.heap[b]? = w.heap[b]?) : Rf G n w' Q st :=
  ⟨(hk _ (.inl rfl)).trans h.head, h.row.keep fun k hk2 => hk k (.inr (by injection hk2 with e; exact e.symm)), h.ne, h.inv, h.n0, h.n1⟩

theorem Rf.below (h : Rf G n w Q st) (hb : Below w.heap.size w w') : Rf G n w' Q st := h.keep fun b ho => hb.block b (h.lt b ho)

theorem Rf.turn {O O' : Nat → Prop} (h : Rf G n w Q st) (ht : Turn O O' w w') (hd : ∀ b, Q.own b → ¬ O b) : Rf G n w' Q st := h.keep (ht.kept h.lt hd)

theorem Rf.cells (h : Rf G n w Q st) : w.cell? ⟨Q.r, 0, none⟩ = some (.int .i64 G.c) ∧ w.cell? ⟨Q.r, 1, none⟩ = some (.int .i64 G.l) ∧ w.cell? ⟨Q.r, 2, none⟩ = some (.int .i64 G.k) ∧ w.cell? ⟨Q.r, 3, none⟩ = some (.int .i64 G.p) ∧ w.cell? ⟨Q.r, 4, none⟩ = some (.int .i64 G.s) ∧ w.cell? ⟨Q.r, 5, none⟩ = some (.slice (some ⟨Q.g, 0, none⟩) n Q.cp) := by
  have := h.head
  refine ⟨?_, ?_, ?_, ?_, ?_, ?_⟩ <;> simp [World.cell?, this]

theorem Rf.fit (h : Rf G n w Q st) : n ≤ Q.cp ∧ Q.cp ≤ maxLen := by
  obtain ⟨A, c, e, h1, h2, _⟩ := h.row.form
  injection e with _ e1 e2
  rw [rowsOf_len] at h1
  omega

theorem Rf.at (h : Rf G n w Q st) {i : Nat} (hi : i < n) : (w.cell? ⟨Q.g, i * 3, none⟩ = some (.int .i64 (st i).a) ∧ w.cell? ⟨Q.g, i * 3 + 1, none⟩ = some (.int .i64 (st i).s) ∧ w.cell? ⟨Q.g, i * 3 + 2, none⟩ = some (.int .i64 (st i).k)) ∧ ∀ j, j < 3 → w.frozen? ⟨Q.g, i * 3 + j, none⟩ = false := by
  have hr := rowsOf_at st hi
  refine ⟨⟨(h.row.cell hr (j := 0) rfl).1, (h.row.cell hr (j := 1) rfl).1, (h.row.cell hr (j := 2) rfl).1⟩, fun j hj => ?_⟩
  have h3 : j = 0 ∨ j = 1 ∨ j = 2 := by omega
  rcases h3 with rfl | rfl | rfl
  · exact (h.row.cell hr (j := 0) rfl).2
  · exact (h.row.cell hr (j := 1) rfl).2
  · exact (h.row.cell hr (j := 2) rfl).2

theorem Get_any (h : Rf G n w Q st) (lba : Int) :
    Calls Try.prog 12 #[ptr Q.r 0, .int .i64 lba] w fun x w' => x = .returned (.tuple #[entV (getE st n lba), .int .i64 (getK n lba)]) ∧ Below w.heap.size w w' := by
  have hX := (Below.refl w.heap.size w).alloc (Nat.le_refl _) (.cells #[.int .i64 0, .int .i64 0, .int .i64 0] 30)
  have hh := h.below hX
  obtain ⟨_, _, _, _, _, hc⟩ := hh.cells
  have hf := h.fit
  unfold maxLen at hf
  have hn1 := h.n1
  have HX := Lib.hid hX
  unfold getE getK
  by_cases ht : there lba n
  · rw [if_pos ht, if_pos ht]
    obtain ⟨i, rfl⟩ := Int.eq_ofNat_of_zero_le ht.1
    have hi : i < n := by have := ht.2; omega
    obtain ⟨⟨c0, c1, c2⟩, _⟩ := hh.at hi
    rw [show ((i : Int).toNat) = i from rfl]
    generalize st i = E at c0 c1 c2 ⊢
    have hi' : (i : Int) < n := by omega
    have h0 : ¬ ((i : Int) < 0) := by omega
    have HB := Lib.hid (fun o => (Below.refl w.heap.size w).alloc (Nat.le_refl _) o)
    clear h hh hX ht
    go_enter Try.func12, Try.ntmps12
    go_wp2
    refine bodyPost_ret (v := .tuple #[entV E, .int .i64 0]) ?_ rfl ⟨rfl, HB.out _⟩
    simp [results, Try.results12, go_sem, entV]
  · rw [if_neg ht, if_neg ht]
    have HT : Hid (¬ there lba n) := Lib.hid ht
    clear h hh hX ht
    by_cases h0 : lba < 0
    · go_enter Try.func12, Try.ntmps12
      go_wp2
      refine bodyPost_ret (v := .tuple #[entV ⟨0, 0, 0⟩, .int .i64 2]) ?_ rfl ⟨rfl, HX.out⟩
      simp [results, Try.results12, go_sem, entV]
    · have h1 : (n : Int) ≤ lba := by have := HT.out; unfold there at this; omega
      go_enter Try.func12, Try.ntmps12
      go_wp2
      refine bodyPost_ret (v := .tuple #[entV ⟨0, 0, 0⟩, .int .i64 2]) ?_ rfl ⟨rfl, HX.out⟩
      simp [results, Try.results12, go_sem, entV]

theorem Many_any (h : Rf G n w Q st) :
    Calls Try.prog 17 #[ptr Q.r 0] w fun x w' => x = .returned (.int .i64 (many st n)) ∧ w' = w := by
  obtain ⟨_, _, _, _, _, hc⟩ := h.cells
  have hf := h.fit
  unfold maxLen at hf
  have hn1 := h.n1
  have H := Lib.hid h
  clear h
  go_enter Try.func17, Try.ntmps17
  go_wp2
  go_loop [3, 4] (fun m i => ∃ k z : Nat, i = .int .i64 k ∧ m = .int .i64 z ∧ z = many st k ∧ k ≤ n) (fun _ i => n - (intOf i).toNat)
  case atStart => exact ⟨0, 0, rfl, rfl, rfl, Nat.zero_le _⟩
  case round =>
    obtain ⟨k, z, rfl, rfl, hz, hk⟩ := hrel
    have HZ := Lib.hid hz
    have hzk : z ≤ k := by rw [hz]; exact many_le st k
    clear hz
    by_cases hlt : k < n
    · obtain ⟨⟨c0, _, _⟩, _⟩ := H.out.at hlt
      have hlt' : (k : Int) < n := by omega
      rcases H.out.inv.a_bd hlt with ⟨ha, _⟩ | ⟨ha, _, _⟩
      · have HZ2 := Lib.hid (show z = many st (k + 1) by rw [many_succ, if_pos ha, ← HZ.out]; rfl)
        rw [ha] at c0
        clear ha
        go_wp2
        go_roundw
        case measure => simp [intOf]; omega
        case rel => exact ⟨k + 1, z, by go_num, rfl, HZ2.out, by omega⟩
      · have HZ2 := Lib.hid (show z + 1 = many st (k + 1) by rw [many_succ, if_neg (by omega), ← HZ.out])
        generalize (st k).a = y at c0 ha
        go_wp2
        go_roundw
        case measure => simp [intOf]; omega
        case rel => exact ⟨k + 1, z + 1, by go_num, by go_num, HZ2.out, by omega⟩
    · obtain rfl : k = n := by omega
      go_wp2
      go_ret
      exact ⟨by rw [HZ.out]; rfl, rfl⟩

/-- The first sector with an address, from the first ones on. -/
theorem who_first {st : St} {n k : Nat} {a : Int} (hI : Inv st n G.N) (hk : k < n) (ha : (st k).a = a) (h0 : 0 ≤ a) : who st n a = (k : Int) := by
  rw [← ha]
  exact who_is hI hk (by rw [ha]; exact h0)

theorem Live_any (h : Rf G n w Q st) (a : Int) :
    Calls Try.prog 42 #[ptr Q.r 0, .int .i64 a] w fun x w' => x = .returned (liveV (liveAt st n G.N a)) ∧ w' = w := by
  obtain ⟨_, _, _, _, _, hc⟩ := h.cells
  have hf := h.fit
  unfold maxLen at hf
  have hn1 := h.n1
  have H := Lib.hid h
  clear h
  go_enter Try.func42, Try.ntmps42
  go_wp2
  go_loop [6] (fun i => ∃ k : Nat, i = .int .i64 k ∧ k ≤ n ∧ ∀ t, t < k → 0 ≤ a → (st t).a ≠ a) (fun i => n - (intOf i).toNat)
  case atStart => exact ⟨0, rfl, Nat.zero_le _, fun t ht => absurd ht (by omega)⟩
  case round =>
    obtain ⟨k, rfl, hk, hall⟩ := hrel
    have HALL := Lib.hid hall
    clear hall
    by_cases hlt : k < n
    · obtain ⟨⟨c0, _, _⟩, _⟩ := H.out.at hlt
      have hlt' : (k : Int) < n := by omega
      by_cases h0 : 0 ≤ a
      · by_cases he : (st k).a = a
        · have hw := who_first (G := G) H.out.inv hlt he h0
          have hbd : a < G.N := by
            rcases H.out.inv.a_bd hlt with ⟨h1, _⟩ | ⟨_, h1, _⟩ <;> omega
          have HE := Lib.hid (show liveAt st n G.N a = (k : Int) by unfold liveAt; rw [if_pos ⟨h0, hbd⟩, hw])
          rw [he] at c0
          clear he hw hbd
          go_wp2
          go_ret2
          exact ⟨by rw [HE.out]; unfold liveV; rw [if_neg (by omega)]; simp, rfl⟩
        · have hb : ((st k).a == a) = false := by simpa using he
          have HE := Lib.hid he
          generalize (st k).a = y at c0 hb
          clear he
          go_wp2
          go_roundw
          case measure => simp [intOf]; omega
          case rel =>
            refine ⟨k + 1, by go_num, by omega, fun t ht h1 => ?_⟩
            by_cases e : t = k
            · rw [e]; exact HE.out
            · exact HALL.out t (by omega) h1
      · generalize (st k).a = y at c0
        go_wp2
        go_roundw
        case measure => simp [intOf]; omega
        case rel => exact ⟨k + 1, by go_num, by omega, fun t _ h1 => absurd h1 (by omega)⟩
    · obtain rfl : k = n := by omega
      have HE := Lib.hid (show liveAt st k G.N a = -1 by
        unfold liveAt
        split
        · rename_i h1
          exact who_none fun i hi => HALL.out i hi h1.1
        · rfl)
      go_wp2
      go_ret2
      exact ⟨by rw [HE.out]; rfl, rfl⟩

end
end Go.Proofs.Ytpheblblkkclbaa.L2pRef
