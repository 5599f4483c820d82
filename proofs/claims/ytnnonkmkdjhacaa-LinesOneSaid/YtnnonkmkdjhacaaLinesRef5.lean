/-
  What the document's lines of layer 12 do: New. Printed by refnew.py.
-/
import Derived.Test.YtnnonkmkdjhacaaLinesRef2
import Derived.Test.YtnnonkmkdjhacaaLinesNew2
import Derived.Test.YtnnonkmkdjhacaaRowsCut
namespace Go.Proofs.Ytnnonkmkdjhacaa.LinesRef
open Go.RowKit Go.ChangeShapes Lines LinesPkg
open Nand (Shape upd upd_same upd_other)
set_option maxRecDepth 4000

theorem infoLine : rowInfo Try.prog 45 5 40 := by
  have h : (Try.prog.info? 45).map (fun i => (i.zero, i.size, i.bytes)) = some (some (.agg #[.int .i64 0, .int .i64 0, .int .i64 0, .int .i64 0, .int .i64 0]), 5, 40) := by kernel_rfl
  obtain ⟨i, hi, hzz⟩ := Option.map_eq_some_iff.1 h
  simp only [Prod.mk.injEq] at hzz
  exact ⟨i, _, hi, hzz.1, hzz.2.1, hzz.2.2, rfl⟩

def ex2 : List Value := [.int .i64 0, .int .i64 0]
def rowsOf (f : St) (n : Nat) : List (List Value) := (List.range n).map fun i => lnL ex2 (f i)
theorem rowsOf_len (f : St) (n : Nat) : (rowsOf f n).length = n := by simp [rowsOf]
theorem rowsOf_at (f : St) {n i : Nat} (h : i < n) : (rowsOf f n)[i]? = some (lnL ex2 (f i)) := by simp [rowsOf, h]
theorem rowsOf_more (f : St) (k : Nat) : rowsOf f (k + 1) = rowsOf f k ++ [lnL ex2 (f k)] := by
  unfold rowsOf
  rw [List.range_succ, List.map_append]
  rfl

theorem tab_of {w : World} {base g n c : Nat} {t : TypeId} {f : St} (h : OwnR w base t 5 (.slice (some ⟨g, 0, none⟩) n c) (rowsOf f n)) : Tab w g n 5 (fun i => lnL ex2 (f i)) :=
  ⟨fun _ _ _ hi hv => h.cell (rowsOf_at f hi) hv, fun _ _ => rfl⟩

/-- The head's cells. -/
def hd (G : Shape) (v : Value) : Array Value := #[.int .i64 G.c, .int .i64 G.l, .int .i64 G.k, .int .i64 G.p, .int .i64 G.s, v]
theorem hd_cell {w : World} {r : Nat} {G : Shape} {v : Value} {t : TypeId} (h : w.heap[r]? = some (.cells (hd G v) t (0, 0))) : w.cell? ⟨r, 5, none⟩ = some v ∧ w.frozen? ⟨r, 5, none⟩ = false := by
  constructor
  · simp [World.cell?, h, hd]
  · simp [World.frozen?, h]
theorem hd_set {w : World} {r : Nat} {G : Shape} {v : Value} {t : TypeId} (h : w.heap[r]? = some (.cells (hd G v) t (0, 0))) (x : Value) : (w.setCell ⟨r, 5, none⟩ x).heap[r]? = some (.cells (hd G x) t (0, 0)) := by
  simp [World.setCell, Array.getElem?_modify, h, hd]

theorem New_geo (c l k p s : Int) (h : ¬ Geom.ok c l k p s) (A1 : Option Addr) (n1 c1 : Nat) (A2 : Option Addr) (n2 c2 : Nat) (w : World) :
    Calls Try.prog 11 #[.agg #[.int .i64 c, .int .i64 l, .int .i64 k, .int .i64 p, .int .i64 s], .slice A1 n1 c1, .slice A2 n2 c2] w fun e w' => e = .returned (.tuple #[.pointer none, .int .i64 1]) ∧ Below w.heap.size w w' := by
  have HR := Lib.hid (rright_bad h (w.alloc (.cells #[.int .i64 c, .int .i64 l, .int .i64 k, .int .i64 p, .int .i64 s] 23)))
  have HB := Lib.hid ((Below.refl w.heap.size w).alloc (Nat.le_refl _) (.cells #[.int .i64 c, .int .i64 l, .int .i64 k, .int .i64 p, .int .i64 s] 23))
  obtain ⟨k0, k1, k2, k3, k4⟩ := geo_new w 23 c l k p s
  clear h
  go_enter Try.func11, Try.ntmps11
  go_wp2_with fail
  refine HR.out.mono ?_
  rintro e w2 ⟨rfl, hb⟩
  replace HB := Lib.hid (below_then HB.out hb)
  clear hb
  go_wp2
  go_ret2
  exact ⟨rfl, HB.out⟩

theorem New_len {G : Shape} (hG : G.Ok) (A1 : Option Addr) (n1 c1 : Nat) (A2 : Option Addr) (n2 c2 : Nat) (h : (n1 : Int) ≠ G.k ∨ (n2 : Int) ≠ G.k) (w : World) :
    Calls Try.prog 11 #[.agg #[.int .i64 G.c, .int .i64 G.l, .int .i64 G.k, .int .i64 G.p, .int .i64 G.s], .slice A1 n1 c1, .slice A2 n2 c2] w fun e w' => e = .returned (.tuple #[.pointer none, .int .i64 1]) ∧ Below w.heap.size w w' := by
  have HR := Lib.hid (rright_ok hG.may (w.alloc (.cells #[.int .i64 G.c, .int .i64 G.l, .int .i64 G.k, .int .i64 G.p, .int .i64 G.s] 23)))
  have HB := Lib.hid ((Below.refl w.heap.size w).alloc (Nat.le_refl _) (.cells #[.int .i64 G.c, .int .i64 G.l, .int .i64 G.k, .int .i64 G.p, .int .i64 G.s] 23))
  have HGE := Lib.hid (geo_new w 23 G.c G.l G.k G.p G.s)
  clear hG
  by_cases h1 : (n1 : Int) = G.k
  · have h2 : (n2 : Int) ≠ G.k := h.resolve_left (fun e => e h1)
    have b1 : ((n1 : Int) != G.k) = false := by simp [h1]
    have b2 : ((n2 : Int) != G.k) = true := by simp [h2]
    clear h h1 h2
    go_enter Try.func11, Try.ntmps11
    go_wp2_with fail
    refine HR.out.mono ?_
    rintro e w2 ⟨rfl, hb⟩
    obtain ⟨k0, k1, k2, k3, k4⟩ := geo_keep HGE.out hb
    replace HB := Lib.hid (below_then HB.out hb)
    clear hb
    go_wp2
    go_ret2
    exact ⟨rfl, HB.out⟩
  · have b1 : ((n1 : Int) != G.k) = true := by simp [h1]
    clear h h1
    go_enter Try.func11, Try.ntmps11
    go_wp2_with fail
    refine HR.out.mono ?_
    rintro e w2 ⟨rfl, hb⟩
    obtain ⟨k0, k1, k2, k3, k4⟩ := geo_keep HGE.out hb
    replace HB := Lib.hid (below_then HB.out hb)
    clear hb
    go_wp2
    go_ret2
    exact ⟨rfl, HB.out⟩

set_option maxRecDepth 40000 in
set_option maxHeartbeats 8000000 in
theorem New_go {G : Shape} (hG : G.Ok) (A1 : Option Addr) (n c1 : Nat) (A2 : Option Addr) (c2 : Nat) (zs1 zs2 : List Int) (w : World) (hk : (n : Int) = G.k) (hr1 : Nums w w.heap.size A1 n zs1) (hr2 : Nums w w.heap.size A2 n zs2) :
    Calls Try.prog 11 #[.agg #[.int .i64 G.c, .int .i64 G.l, .int .i64 G.k, .int .i64 G.p, .int .i64 G.s], .slice A1 n c1, .slice A2 n c2] w fun e w' =>
      (∃ P : Pl, e = .returned (.tuple #[ptr P.g 0, .int .i64 0]) ∧ (fine n G.k zs1 G.U ∧ fine n G.k zs2 2147483647) ∧ Rf G n w' P (LinesPkg.start zs1 zs2) ∧ (∀ b, P.own b → w.heap.size ≤ b) ∧ Below w.heap.size w w') ∨
      (e = .returned (.tuple #[.pointer none, .int .i64 1]) ∧ ¬ (fine n G.k zs1 G.U ∧ fine n G.k zs2 2147483647) ∧ Below w.heap.size w w') := by
  have hm := hG.may
  unfold Geom.ok at hm
  have hn0 : 0 < n := by omega
  have hn64 : n ≤ 64 := by omega
  have HR := Lib.hid (rright_ok hG.may (w.alloc (.cells #[.int .i64 G.c, .int .i64 G.l, .int .i64 G.k, .int .i64 G.p, .int .i64 G.s] 23)))
  have HB := Lib.hid ((Below.refl w.heap.size w).alloc (Nat.le_refl _) (.cells #[.int .i64 G.c, .int .i64 G.l, .int .i64 G.k, .int .i64 G.p, .int .i64 G.s] 23))
  have HGE := Lib.hid (geo_new w 23 G.c G.l G.k G.p G.s)
  have HU := Lib.hid (fun w => runits_ok hG w)
  have hu0 := hG.u0
  have HG := Lib.hid hG
  have HNK := Lib.hid hk
  have HR1 := Lib.hid hr1
  have HR2 := Lib.hid hr2
  have HFI := Lib.hid (fun (h : ∀ q, q < n → ∀ x y, zs1[q]? = some x → zs2[q]? = some y → (0 ≤ x ∧ x ≤ G.U) ∧ 0 ≤ y ∧ y ≤ 2147483647) => show fine n G.k zs1 G.U ∧ fine n G.k zs2 2147483647 from by
    have l1 := hr1.1
    have l2 := hr2.1
    refine ⟨⟨hk, fun x hx => ?_⟩, hk, fun y hy => ?_⟩
    · obtain ⟨q, hq⟩ := List.getElem?_of_mem hx
      have hlt := (List.getElem?_eq_some_iff.1 hq).1
      exact (h q (by omega) x _ hq (List.getElem?_eq_getElem (by omega))).1
    · obtain ⟨q, hq⟩ := List.getElem?_of_mem hy
      have hlt := (List.getElem?_eq_some_iff.1 hq).1
      exact (h q (by omega) _ y (List.getElem?_eq_getElem (by omega)) hq).2)
  have b1 : ((n : Int) != G.k) = false := by simp [hk]
  clear hG hm hk hr1 hr2
  go_enter Try.func11, Try.ntmps11
  go_wp2_with fail
  refine HR.out.mono ?_
  rintro e w2 ⟨rfl, hb⟩
  obtain ⟨k0, k1, k2, k3, k4⟩ := geo_keep HGE.out hb
  replace HGE := Lib.hid (geo_keep HGE.out hb)
  replace HB := Lib.hid (below_then HB.out hb)
  clear hb HR
  have HAL := Lib.hid (HB.out.alloc HB.out.size (.cells (hd G (.slice none 0 0)) 65))
  have HNEW := Lib.hid (heap_alloc_new w2 (.cells (hd G (.slice none 0 0)) 65))
  have HG2 := Lib.hid (geo_keep HGE.out ((Below.refl w2.heap.size w2).alloc (Nat.le_refl _) (.cells (hd G (.slice none 0 0)) 65)))
  obtain ⟨r, hr⟩ : ∃ r, r = w2.heap.size := ⟨_, rfl⟩
  have HRR := Lib.hid (show w.heap.size < r by rw [hr]; exact World.block_lt_of_cell? _ _ k0)
  go_wp2
  rw [← hr] at HNEW ⊢
  clear hr HB k0 k1 k2 k3 k4 b1
  go_loopw [9] (fun i wr => ∃ (k : Nat) (v : Value), i = .int .i64 (k : Int) ∧ k ≤ n ∧ (∀ q, q < k → ∀ x y, zs1[q]? = some x → zs2[q]? = some y → (0 ≤ x ∧ x ≤ G.U) ∧ 0 ≤ y ∧ y ≤ 2147483647) ∧ wr.heap[r]? = some (.cells (hd G v) 65 (0, 0)) ∧ OwnR wr (w.heap.size + 1) 45 5 v (rowsOf (LinesPkg.start zs1 zs2) k) ∧ v.ownBlock ≠ some r ∧ Geo wr w.heap.size G.c G.l G.k G.p G.s ∧ Below w.heap.size w wr) (fun i _ => n - (intOf i).toNat)
  case atStart => exact ⟨0, _, rfl, Nat.zero_le _, fun q hq => absurd hq (by omega), HNEW.out, ownR_nil _ _ _ _, by simp [Value.ownBlock], HG2.out, HAL.out⟩
  case round =>
    obtain ⟨k, v, rfl, hk, hf, hh, hrow, hne, hgeo, hbw⟩ := hrel
    have HF := Lib.hid hf
    have HH := Lib.hid hh
    have HROW := Lib.hid hrow
    have HNE := Lib.hid hne
    have HGO := Lib.hid hgeo
    have HW := Lib.hid hbw
    obtain ⟨hc, hz⟩ := hd_cell hh
    have hrl := (Array.getElem?_eq_some_iff.1 hh).1
    obtain ⟨k0, k1, k2, k3, k4⟩ := hgeo
    obtain ⟨A, cc, hv, _⟩ := hrow.form
    rw [rowsOf_len] at hv
    clear hf hh hrow hne hbw
    by_cases hlt : k < n
    · have hlt' : (k : Int) < G.k := by rw [← HNK.out]; omega
      have hlt2 : (k : Int) < n := by omega
      obtain ⟨b1, o1, z1, rfl, hb1, hz1, e1, hz1a, hz1b⟩ := (nums_keep HR1.out HW.out).at_ hlt
      obtain ⟨b2, o2, z2, rfl, hb2, hz2, e2, hz2a, hz2b⟩ := (nums_keep HR2.out HW.out).at_ hlt
      have HZ1 := Lib.hid hz1
      have HZ2 := Lib.hid hz2
      have HC7 : Hid (wr.drew.cell? ⟨w.heap.size, 0, none⟩ = some (.int .i64 G.c) ∧ wr.drew.cell? ⟨w.heap.size, 1, none⟩ = some (.int .i64 G.l) ∧ wr.drew.cell? ⟨w.heap.size, 2, none⟩ = some (.int .i64 G.k) ∧ wr.drew.cell? ⟨w.heap.size, 3, none⟩ = some (.int .i64 G.p) ∧ wr.drew.cell? ⟨w.heap.size, 4, none⟩ = some (.int .i64 G.s) ∧ wr.drew.cell? ⟨b1, o1 + k, none⟩ = some (.int .i64 z1) ∧ wr.drew.cell? ⟨b2, o2 + k, none⟩ = some (.int .i64 z2)) := Lib.hid ⟨k0, k1, k2, k3, k4, e1, e2⟩
      have HBL1 := Lib.hid hb1
      have HBL2 := Lib.hid hb2
      clear hz1 hz2 e1 e2 hb1 hb2
      by_cases ha : z1 < 0
      · have HBAD := Lib.hid (show ¬ (fine n G.k zs1 G.U ∧ fine n G.k zs2 2147483647) from fun hh => by have := (hh.1.2 z1 (List.mem_of_getElem? HZ1.out)).1; omega)
        have d1 : decide (z1 < 0) = true := decide_eq_true ha
        clear ha
        go_wp2_with fail
        refine wp_region_held_drew (S := (fun w' => w'.cell? ⟨w.heap.size, 0, none⟩ = some (.int .i64 G.c) ∧ w'.cell? ⟨w.heap.size, 1, none⟩ = some (.int .i64 G.l) ∧ w'.cell? ⟨w.heap.size, 2, none⟩ = some (.int .i64 G.k) ∧ w'.cell? ⟨w.heap.size, 3, none⟩ = some (.int .i64 G.p) ∧ w'.cell? ⟨w.heap.size, 4, none⟩ = some (.int .i64 G.s) ∧ w'.cell? ⟨b1, o1 + k, none⟩ = some (.int .i64 z1) ∧ w'.cell? ⟨b2, o2 + k, none⟩ = some (.int .i64 z2))) (by kernel_rfl) ?_ (fun hHeld => ?_)
        · exact HC7.out
        refine Hand.held_take (i := 0) (d := 36) (v := ?_) rfl rfl (by kernel_rfl) (by kernel_rfl) (by kernel_rfl) (by rfl) ?_ (by assumption) (fun _ _ _ h => h) ?_
        rotate_left
        · intro w hSw
          go_simp
          with_reducible rfl
        try simp only [Act.put, List.setIfInBounds_toArray, List.set_cons_zero, List.set_cons_succ]
        refine Hand.held_take (i := 1) (d := 37) (v := ?_) rfl rfl (by kernel_rfl) (by kernel_rfl) (by kernel_rfl) (by rfl) ?_ (by assumption) (fun _ _ _ h => h) ?_
        rotate_left
        · intro w hSw
          go_simp
          with_reducible rfl
        try simp only [Act.put, List.setIfInBounds_toArray, List.set_cons_zero, List.set_cons_succ]
        refine Hand.held_take (i := 2) (d := 38) (v := ?_) rfl rfl (by kernel_rfl) (by kernel_rfl) (by kernel_rfl) (by rfl) ?_ (by assumption) (fun _ _ _ h => h) ?_
        rotate_left
        · intro w hSw
          go_simp
          with_reducible rfl
        try simp only [Act.put, List.setIfInBounds_toArray, List.set_cons_zero, List.set_cons_succ]
        refine Hand.held_take (i := 3) (d := 39) (v := ?_) rfl rfl (by kernel_rfl) (by kernel_rfl) (by kernel_rfl) (by rfl) ?_ (by assumption) (fun _ _ _ h => h) ?_
        rotate_left
        · intro w hSw
          go_simp
          with_reducible rfl
        try simp only [Act.put, List.setIfInBounds_toArray, List.set_cons_zero, List.set_cons_succ]
        refine Hand.held_take (i := 4) (d := 40) (v := ?_) rfl rfl (by kernel_rfl) (by kernel_rfl) (by kernel_rfl) (by rfl) ?_ (by assumption) (fun _ _ _ h => h) ?_
        rotate_left
        · intro w hSw
          go_simp
          with_reducible rfl
        try simp only [Act.put, List.setIfInBounds_toArray, List.set_cons_zero, List.set_cons_succ]
        refine Hand.held_take (i := 5) (d := 41) (v := ?_) rfl rfl (by kernel_rfl) (by kernel_rfl) (by kernel_rfl) (by rfl) ?_ (by assumption) (fun _ _ _ h => h) ?_
        rotate_left
        · intro w hSw
          go_simp
          with_reducible rfl
        try simp only [Act.put, List.setIfInBounds_toArray, List.set_cons_zero, List.set_cons_succ]
        refine Hand.held_skip (i := 6) (d := 42) rfl rfl (by kernel_rfl) (by kernel_rfl) (by kernel_rfl) (by rfl) (by assumption) (fun _ _ _ h => h) ?_
        try simp only [Act.put, List.setIfInBounds_toArray, List.set_cons_zero, List.set_cons_succ]
        refine Hand.held_skip (i := 7) (d := 43) rfl rfl (by kernel_rfl) (by kernel_rfl) (by kernel_rfl) (by rfl) (by assumption) (fun _ _ _ h => h) ?_
        try simp only [Act.put, List.setIfInBounds_toArray, List.set_cons_zero, List.set_cons_succ]
        refine Hand.held_skip (i := 8) (d := 44) rfl rfl (by kernel_rfl) (by kernel_rfl) (by kernel_rfl) (by rfl) (by assumption) (fun _ _ _ h => h) ?_
        try simp only [Act.put, List.setIfInBounds_toArray, List.set_cons_zero, List.set_cons_succ]
        refine Hand.held_skip (i := 9) (d := 45) rfl rfl (by kernel_rfl) (by kernel_rfl) (by kernel_rfl) (by rfl) (by assumption) (fun _ _ _ h => h) ?_
        try simp only [Act.put, List.setIfInBounds_toArray, List.set_cons_zero, List.set_cons_succ]
        refine Hand.held_skip (i := 10) (d := 46) rfl rfl (by kernel_rfl) (by kernel_rfl) (by kernel_rfl) (by rfl) (by assumption) (fun _ _ _ h => h) ?_
        try simp only [Act.put, List.setIfInBounds_toArray, List.set_cons_zero, List.set_cons_succ]
        refine Hand.held_skip (i := 11) (d := 47) rfl rfl (by kernel_rfl) (by kernel_rfl) (by kernel_rfl) (by rfl) (by assumption) (fun _ _ _ h => h) ?_
        try simp only [Act.put, List.setIfInBounds_toArray, List.set_cons_zero, List.set_cons_succ]
        refine Hand.held_skip (i := 12) (d := 48) rfl rfl (by kernel_rfl) (by kernel_rfl) (by kernel_rfl) (by rfl) (by assumption) (fun _ _ _ h => h) ?_
        try simp only [Act.put, List.setIfInBounds_toArray, List.set_cons_zero, List.set_cons_succ]
        refine Hand.held_take (i := 13) (d := 49) (v := ?_) rfl rfl (by kernel_rfl) (by kernel_rfl) (by kernel_rfl) (by rfl) ?_ (by assumption) (fun _ _ _ h => h) ?_
        rotate_left
        · intro w hSw
          go_simp
          with_reducible rfl
        try simp only [Act.put, List.setIfInBounds_toArray, List.set_cons_zero, List.set_cons_succ]
        refine Hand.held_take (i := 14) (d := 50) (v := ?_) rfl rfl (by kernel_rfl) (by kernel_rfl) (by kernel_rfl) (by rfl) ?_ (by assumption) (fun _ _ _ h => h) ?_
        rotate_left
        · intro w hSw
          go_simp
          with_reducible rfl
        try simp only [Act.put, List.setIfInBounds_toArray, List.set_cons_zero, List.set_cons_succ]
        refine Hand.held_skip (i := 15) (d := 51) rfl rfl (by kernel_rfl) (by kernel_rfl) (by kernel_rfl) (by rfl) (by assumption) (fun _ _ _ h => h) ?_
        try simp only [Act.put, List.setIfInBounds_toArray, List.set_cons_zero, List.set_cons_succ]
        refine Hand.held_skip (i := 16) (d := 52) rfl rfl (by kernel_rfl) (by kernel_rfl) (by kernel_rfl) (by rfl) (by assumption) (fun _ _ _ h => h) ?_
        try simp only [Act.put, List.setIfInBounds_toArray, List.set_cons_zero, List.set_cons_succ]
        refine Hand.held_skip (i := 17) (d := 53) rfl rfl (by kernel_rfl) (by kernel_rfl) (by kernel_rfl) (by rfl) (by assumption) (fun _ _ _ h => h) ?_
        try simp only [Act.put, List.setIfInBounds_toArray, List.set_cons_zero, List.set_cons_succ]
        refine Hand.held_skip (i := 18) (d := 54) rfl rfl (by kernel_rfl) (by kernel_rfl) (by kernel_rfl) (by rfl) (by assumption) (fun _ _ _ h => h) ?_
        try simp only [Act.put, List.setIfInBounds_toArray, List.set_cons_zero, List.set_cons_succ]
        refine Hand.held_skip (i := 19) (d := 55) rfl rfl (by kernel_rfl) (by kernel_rfl) (by kernel_rfl) (by rfl) (by assumption) (fun _ _ _ h => h) ?_
        try simp only [Act.put, List.setIfInBounds_toArray, List.set_cons_zero, List.set_cons_succ]
        refine Hand.held_take (i := 20) (d := 56) (v := ?_) rfl rfl (by kernel_rfl) (by kernel_rfl) (by kernel_rfl) (by rfl) ?_ (by assumption) (fun _ _ _ h => h) ?_
        rotate_left
        · intro w hSw
          go_simp
          with_reducible rfl
        try simp only [Act.put, List.setIfInBounds_toArray, List.set_cons_zero, List.set_cons_succ]
        refine Hand.held_take (i := 21) (d := 57) (v := ?_) rfl rfl (by kernel_rfl) (by kernel_rfl) (by kernel_rfl) (by rfl) ?_ (by assumption) (fun _ _ _ h => h) ?_
        rotate_left
        · intro w hSw
          go_simp
          with_reducible rfl
        try simp only [Act.put, List.setIfInBounds_toArray, List.set_cons_zero, List.set_cons_succ]
        refine Hand.held_skip (i := 22) (d := 58) rfl rfl (by kernel_rfl) (by kernel_rfl) (by kernel_rfl) (by rfl) (by assumption) (fun _ _ _ h => h) ?_
        try simp only [Act.put, List.setIfInBounds_toArray, List.set_cons_zero, List.set_cons_succ]
        refine Hand.held_skip (i := 23) (d := 59) rfl rfl (by kernel_rfl) (by kernel_rfl) (by kernel_rfl) (by rfl) (by assumption) (fun _ _ _ h => h) ?_
        try simp only [Act.put, List.setIfInBounds_toArray, List.set_cons_zero, List.set_cons_succ]
        refine Hand.held_skip (i := 24) (d := 60) rfl rfl (by kernel_rfl) (by kernel_rfl) (by kernel_rfl) (by rfl) (by assumption) (fun _ _ _ h => h) ?_
        try simp only [Act.put, List.setIfInBounds_toArray, List.set_cons_zero, List.set_cons_succ]
        refine Hand.held_skip (i := 25) (d := 61) rfl rfl (by kernel_rfl) (by kernel_rfl) (by kernel_rfl) (by rfl) (by assumption) (fun _ _ _ h => h) ?_
        try simp only [Act.put, List.setIfInBounds_toArray, List.set_cons_zero, List.set_cons_succ]
        refine Hand.held_skip (i := 26) (d := 62) rfl rfl (by kernel_rfl) (by kernel_rfl) (by kernel_rfl) (by rfl) (by assumption) (fun _ _ _ h => h) ?_
        try simp only [Act.put, List.setIfInBounds_toArray, List.set_cons_zero, List.set_cons_succ]
        refine Hand.held_take (i := 27) (d := 63) (v := ?_) rfl rfl (by kernel_rfl) (by kernel_rfl) (by kernel_rfl) (by rfl) ?_ (by assumption) (fun _ _ _ h => h) ?_
        rotate_left
        · intro w hSw
          go_simp
          with_reducible rfl
        try simp only [Act.put, List.setIfInBounds_toArray, List.set_cons_zero, List.set_cons_succ]
        refine wpAnyH_done (by kernel_rfl) ?_ _
        clear hHeld
        go_wp2
        go_ret2
        exact .inr ⟨rfl, HBAD.out, HW.out.drew⟩
      have d1 : decide (z1 < 0) = false := decide_eq_false ha
      by_cases hbg : G.U < z1
      · have HBAD := Lib.hid (show ¬ (fine n G.k zs1 G.U ∧ fine n G.k zs2 2147483647) from fun hh => by have := (hh.1.2 z1 (List.mem_of_getElem? HZ1.out)).2; omega)
        have d2 : decide (G.U < z1) = true := decide_eq_true hbg
        clear ha hbg
        go_wp2_with fail
        refine wp_region_held_drew (S := (fun w' => w'.cell? ⟨w.heap.size, 0, none⟩ = some (.int .i64 G.c) ∧ w'.cell? ⟨w.heap.size, 1, none⟩ = some (.int .i64 G.l) ∧ w'.cell? ⟨w.heap.size, 2, none⟩ = some (.int .i64 G.k) ∧ w'.cell? ⟨w.heap.size, 3, none⟩ = some (.int .i64 G.p) ∧ w'.cell? ⟨w.heap.size, 4, none⟩ = some (.int .i64 G.s) ∧ w'.cell? ⟨b1, o1 + k, none⟩ = some (.int .i64 z1) ∧ w'.cell? ⟨b2, o2 + k, none⟩ = some (.int .i64 z2))) (by kernel_rfl) ?_ (fun hHeld => ?_)
        · exact HC7.out
        refine Hand.held_take (i := 0) (d := 36) (v := ?_) rfl rfl (by kernel_rfl) (by kernel_rfl) (by kernel_rfl) (by rfl) ?_ (by assumption) (fun _ _ _ h => h) ?_
        rotate_left
        · intro w hSw
          go_simp
          with_reducible rfl
        try simp only [Act.put, List.setIfInBounds_toArray, List.set_cons_zero, List.set_cons_succ]
        refine Hand.held_take (i := 1) (d := 37) (v := ?_) rfl rfl (by kernel_rfl) (by kernel_rfl) (by kernel_rfl) (by rfl) ?_ (by assumption) (fun _ _ _ h => h) ?_
        rotate_left
        · intro w hSw
          go_simp
          with_reducible rfl
        try simp only [Act.put, List.setIfInBounds_toArray, List.set_cons_zero, List.set_cons_succ]
        refine Hand.held_take (i := 2) (d := 38) (v := ?_) rfl rfl (by kernel_rfl) (by kernel_rfl) (by kernel_rfl) (by rfl) ?_ (by assumption) (fun _ _ _ h => h) ?_
        rotate_left
        · intro w hSw
          go_simp
          with_reducible rfl
        try simp only [Act.put, List.setIfInBounds_toArray, List.set_cons_zero, List.set_cons_succ]
        refine Hand.held_take (i := 3) (d := 39) (v := ?_) rfl rfl (by kernel_rfl) (by kernel_rfl) (by kernel_rfl) (by rfl) ?_ (by assumption) (fun _ _ _ h => h) ?_
        rotate_left
        · intro w hSw
          go_simp
          with_reducible rfl
        try simp only [Act.put, List.setIfInBounds_toArray, List.set_cons_zero, List.set_cons_succ]
        refine Hand.held_take (i := 4) (d := 40) (v := ?_) rfl rfl (by kernel_rfl) (by kernel_rfl) (by kernel_rfl) (by rfl) ?_ (by assumption) (fun _ _ _ h => h) ?_
        rotate_left
        · intro w hSw
          go_simp
          with_reducible rfl
        try simp only [Act.put, List.setIfInBounds_toArray, List.set_cons_zero, List.set_cons_succ]
        refine Hand.held_take (i := 5) (d := 41) (v := ?_) rfl rfl (by kernel_rfl) (by kernel_rfl) (by kernel_rfl) (by rfl) ?_ (by assumption) (fun _ _ _ h => h) ?_
        rotate_left
        · intro w hSw
          go_simp
          with_reducible rfl
        try simp only [Act.put, List.setIfInBounds_toArray, List.set_cons_zero, List.set_cons_succ]
        refine Hand.held_take (i := 6) (d := 42) (v := ?_) rfl rfl (by kernel_rfl) (by kernel_rfl) (by kernel_rfl) (by rfl) ?_ (by assumption) (fun _ _ _ h => h) ?_
        rotate_left
        · intro w hSw
          go_simp
          with_reducible rfl
        try simp only [Act.put, List.setIfInBounds_toArray, List.set_cons_zero, List.set_cons_succ]
        refine Hand.held_take (i := 7) (d := 43) (v := ?_) rfl rfl (by kernel_rfl) (by kernel_rfl) (by kernel_rfl) (by rfl) ?_ (by assumption) (fun _ _ _ h => h) ?_
        rotate_left
        · intro w hSw
          go_simp
          with_reducible rfl
        try simp only [Act.put, List.setIfInBounds_toArray, List.set_cons_zero, List.set_cons_succ]
        refine Hand.held_take (i := 8) (d := 44) (v := ?_) rfl rfl (by kernel_rfl) (by kernel_rfl) (by kernel_rfl) (by rfl) ?_ (by assumption) (fun _ _ _ h => h) ?_
        rotate_left
        · intro w hSw
          go_simp
          with_reducible rfl
        try simp only [Act.put, List.setIfInBounds_toArray, List.set_cons_zero, List.set_cons_succ]
        refine Hand.held_take (i := 9) (d := 45) (v := ?_) rfl rfl (by kernel_rfl) (by kernel_rfl) (by kernel_rfl) (by rfl) ?_ (by assumption) (fun _ _ _ h => h) ?_
        rotate_left
        · intro w hSw
          go_simp
          with_reducible rfl
        try simp only [Act.put, List.setIfInBounds_toArray, List.set_cons_zero, List.set_cons_succ]
        refine Hand.held_take (i := 10) (d := 46) (v := ?_) rfl rfl (by kernel_rfl) (by kernel_rfl) (by kernel_rfl) (by rfl) ?_ (by assumption) (fun _ _ _ h => h) ?_
        rotate_left
        · intro w hSw
          go_simp
          with_reducible rfl
        try simp only [Act.put, List.setIfInBounds_toArray, List.set_cons_zero, List.set_cons_succ]
        refine wpAnyH_ready (rs := [11]) (by kernel_rfl) (by simp) ?_
        refine AllReadyH.cons rfl (fun K hK => ?_) AllReadyH.nil
        go_simp
        go_wp2_with (refine (HU.out _).mono ?_; rintro e w7 ⟨rfl, hb⟩; have HB7 := Lib.hid hb)
        refine hK.out _ _ ?_ (fun hHeld => ?_)
        · exact seven_keep (by assumption) hb
        clear hK K
        clear hb
        refine Hand.held_take (i := 12) (d := 48) (v := ?_) rfl rfl (by kernel_rfl) (by kernel_rfl) (by kernel_rfl) (by rfl) ?_ (by assumption) (fun _ _ _ h => h) ?_
        rotate_left
        · intro w hSw
          go_simp
          with_reducible rfl
        try simp only [Act.put, List.setIfInBounds_toArray, List.set_cons_zero, List.set_cons_succ]
        refine Hand.held_take (i := 13) (d := 49) (v := ?_) rfl rfl (by kernel_rfl) (by kernel_rfl) (by kernel_rfl) (by rfl) ?_ (by assumption) (fun _ _ _ h => h) ?_
        rotate_left
        · intro w hSw
          go_simp
          with_reducible rfl
        try simp only [Act.put, List.setIfInBounds_toArray, List.set_cons_zero, List.set_cons_succ]
        refine Hand.held_take (i := 14) (d := 50) (v := ?_) rfl rfl (by kernel_rfl) (by kernel_rfl) (by kernel_rfl) (by rfl) ?_ (by assumption) (fun _ _ _ h => h) ?_
        rotate_left
        · intro w hSw
          go_simp
          with_reducible rfl
        try simp only [Act.put, List.setIfInBounds_toArray, List.set_cons_zero, List.set_cons_succ]
        refine Hand.held_skip (i := 15) (d := 51) rfl rfl (by kernel_rfl) (by kernel_rfl) (by kernel_rfl) (by rfl) (by assumption) (fun _ _ _ h => h) ?_
        try simp only [Act.put, List.setIfInBounds_toArray, List.set_cons_zero, List.set_cons_succ]
        refine Hand.held_skip (i := 16) (d := 52) rfl rfl (by kernel_rfl) (by kernel_rfl) (by kernel_rfl) (by rfl) (by assumption) (fun _ _ _ h => h) ?_
        try simp only [Act.put, List.setIfInBounds_toArray, List.set_cons_zero, List.set_cons_succ]
        refine Hand.held_skip (i := 17) (d := 53) rfl rfl (by kernel_rfl) (by kernel_rfl) (by kernel_rfl) (by rfl) (by assumption) (fun _ _ _ h => h) ?_
        try simp only [Act.put, List.setIfInBounds_toArray, List.set_cons_zero, List.set_cons_succ]
        refine Hand.held_skip (i := 18) (d := 54) rfl rfl (by kernel_rfl) (by kernel_rfl) (by kernel_rfl) (by rfl) (by assumption) (fun _ _ _ h => h) ?_
        try simp only [Act.put, List.setIfInBounds_toArray, List.set_cons_zero, List.set_cons_succ]
        refine Hand.held_skip (i := 19) (d := 55) rfl rfl (by kernel_rfl) (by kernel_rfl) (by kernel_rfl) (by rfl) (by assumption) (fun _ _ _ h => h) ?_
        try simp only [Act.put, List.setIfInBounds_toArray, List.set_cons_zero, List.set_cons_succ]
        refine Hand.held_take (i := 20) (d := 56) (v := ?_) rfl rfl (by kernel_rfl) (by kernel_rfl) (by kernel_rfl) (by rfl) ?_ (by assumption) (fun _ _ _ h => h) ?_
        rotate_left
        · intro w hSw
          go_simp
          with_reducible rfl
        try simp only [Act.put, List.setIfInBounds_toArray, List.set_cons_zero, List.set_cons_succ]
        refine Hand.held_take (i := 21) (d := 57) (v := ?_) rfl rfl (by kernel_rfl) (by kernel_rfl) (by kernel_rfl) (by rfl) ?_ (by assumption) (fun _ _ _ h => h) ?_
        rotate_left
        · intro w hSw
          go_simp
          with_reducible rfl
        try simp only [Act.put, List.setIfInBounds_toArray, List.set_cons_zero, List.set_cons_succ]
        refine Hand.held_skip (i := 22) (d := 58) rfl rfl (by kernel_rfl) (by kernel_rfl) (by kernel_rfl) (by rfl) (by assumption) (fun _ _ _ h => h) ?_
        try simp only [Act.put, List.setIfInBounds_toArray, List.set_cons_zero, List.set_cons_succ]
        refine Hand.held_skip (i := 23) (d := 59) rfl rfl (by kernel_rfl) (by kernel_rfl) (by kernel_rfl) (by rfl) (by assumption) (fun _ _ _ h => h) ?_
        try simp only [Act.put, List.setIfInBounds_toArray, List.set_cons_zero, List.set_cons_succ]
        refine Hand.held_skip (i := 24) (d := 60) rfl rfl (by kernel_rfl) (by kernel_rfl) (by kernel_rfl) (by rfl) (by assumption) (fun _ _ _ h => h) ?_
        try simp only [Act.put, List.setIfInBounds_toArray, List.set_cons_zero, List.set_cons_succ]
        refine Hand.held_skip (i := 25) (d := 61) rfl rfl (by kernel_rfl) (by kernel_rfl) (by kernel_rfl) (by rfl) (by assumption) (fun _ _ _ h => h) ?_
        try simp only [Act.put, List.setIfInBounds_toArray, List.set_cons_zero, List.set_cons_succ]
        refine Hand.held_skip (i := 26) (d := 62) rfl rfl (by kernel_rfl) (by kernel_rfl) (by kernel_rfl) (by rfl) (by assumption) (fun _ _ _ h => h) ?_
        try simp only [Act.put, List.setIfInBounds_toArray, List.set_cons_zero, List.set_cons_succ]
        refine Hand.held_take (i := 27) (d := 63) (v := ?_) rfl rfl (by kernel_rfl) (by kernel_rfl) (by kernel_rfl) (by rfl) ?_ (by assumption) (fun _ _ _ h => h) ?_
        rotate_left
        · intro w hSw
          go_simp
          with_reducible rfl
        try simp only [Act.put, List.setIfInBounds_toArray, List.set_cons_zero, List.set_cons_succ]
        refine wpAnyH_done (by kernel_rfl) ?_ _
        clear hHeld
        go_wp2
        go_ret2
        exact .inr ⟨rfl, HBAD.out, below_then HW.out.drew HB7.out⟩
      have d2 : decide (G.U < z1) = false := decide_eq_false hbg
      by_cases hc0 : z2 < 0
      · have HBAD := Lib.hid (show ¬ (fine n G.k zs1 G.U ∧ fine n G.k zs2 2147483647) from fun hh => by have := (hh.2.2 z2 (List.mem_of_getElem? HZ2.out)).1; omega)
        have d3 : decide (z2 < 0) = true := decide_eq_true hc0
        clear ha hbg hc0
        go_wp2_with fail
        refine wp_region_held_drew (S := (fun w' => w'.cell? ⟨w.heap.size, 0, none⟩ = some (.int .i64 G.c) ∧ w'.cell? ⟨w.heap.size, 1, none⟩ = some (.int .i64 G.l) ∧ w'.cell? ⟨w.heap.size, 2, none⟩ = some (.int .i64 G.k) ∧ w'.cell? ⟨w.heap.size, 3, none⟩ = some (.int .i64 G.p) ∧ w'.cell? ⟨w.heap.size, 4, none⟩ = some (.int .i64 G.s) ∧ w'.cell? ⟨b1, o1 + k, none⟩ = some (.int .i64 z1) ∧ w'.cell? ⟨b2, o2 + k, none⟩ = some (.int .i64 z2))) (by kernel_rfl) ?_ (fun hHeld => ?_)
        · exact HC7.out
        refine Hand.held_take (i := 0) (d := 36) (v := ?_) rfl rfl (by kernel_rfl) (by kernel_rfl) (by kernel_rfl) (by rfl) ?_ (by assumption) (fun _ _ _ h => h) ?_
        rotate_left
        · intro w hSw
          go_simp
          with_reducible rfl
        try simp only [Act.put, List.setIfInBounds_toArray, List.set_cons_zero, List.set_cons_succ]
        refine Hand.held_take (i := 1) (d := 37) (v := ?_) rfl rfl (by kernel_rfl) (by kernel_rfl) (by kernel_rfl) (by rfl) ?_ (by assumption) (fun _ _ _ h => h) ?_
        rotate_left
        · intro w hSw
          go_simp
          with_reducible rfl
        try simp only [Act.put, List.setIfInBounds_toArray, List.set_cons_zero, List.set_cons_succ]
        refine Hand.held_take (i := 2) (d := 38) (v := ?_) rfl rfl (by kernel_rfl) (by kernel_rfl) (by kernel_rfl) (by rfl) ?_ (by assumption) (fun _ _ _ h => h) ?_
        rotate_left
        · intro w hSw
          go_simp
          with_reducible rfl
        try simp only [Act.put, List.setIfInBounds_toArray, List.set_cons_zero, List.set_cons_succ]
        refine Hand.held_take (i := 3) (d := 39) (v := ?_) rfl rfl (by kernel_rfl) (by kernel_rfl) (by kernel_rfl) (by rfl) ?_ (by assumption) (fun _ _ _ h => h) ?_
        rotate_left
        · intro w hSw
          go_simp
          with_reducible rfl
        try simp only [Act.put, List.setIfInBounds_toArray, List.set_cons_zero, List.set_cons_succ]
        refine Hand.held_take (i := 4) (d := 40) (v := ?_) rfl rfl (by kernel_rfl) (by kernel_rfl) (by kernel_rfl) (by rfl) ?_ (by assumption) (fun _ _ _ h => h) ?_
        rotate_left
        · intro w hSw
          go_simp
          with_reducible rfl
        try simp only [Act.put, List.setIfInBounds_toArray, List.set_cons_zero, List.set_cons_succ]
        refine Hand.held_take (i := 5) (d := 41) (v := ?_) rfl rfl (by kernel_rfl) (by kernel_rfl) (by kernel_rfl) (by rfl) ?_ (by assumption) (fun _ _ _ h => h) ?_
        rotate_left
        · intro w hSw
          go_simp
          with_reducible rfl
        try simp only [Act.put, List.setIfInBounds_toArray, List.set_cons_zero, List.set_cons_succ]
        refine Hand.held_take (i := 6) (d := 42) (v := ?_) rfl rfl (by kernel_rfl) (by kernel_rfl) (by kernel_rfl) (by rfl) ?_ (by assumption) (fun _ _ _ h => h) ?_
        rotate_left
        · intro w hSw
          go_simp
          with_reducible rfl
        try simp only [Act.put, List.setIfInBounds_toArray, List.set_cons_zero, List.set_cons_succ]
        refine Hand.held_take (i := 7) (d := 43) (v := ?_) rfl rfl (by kernel_rfl) (by kernel_rfl) (by kernel_rfl) (by rfl) ?_ (by assumption) (fun _ _ _ h => h) ?_
        rotate_left
        · intro w hSw
          go_simp
          with_reducible rfl
        try simp only [Act.put, List.setIfInBounds_toArray, List.set_cons_zero, List.set_cons_succ]
        refine Hand.held_take (i := 8) (d := 44) (v := ?_) rfl rfl (by kernel_rfl) (by kernel_rfl) (by kernel_rfl) (by rfl) ?_ (by assumption) (fun _ _ _ h => h) ?_
        rotate_left
        · intro w hSw
          go_simp
          with_reducible rfl
        try simp only [Act.put, List.setIfInBounds_toArray, List.set_cons_zero, List.set_cons_succ]
        refine Hand.held_take (i := 9) (d := 45) (v := ?_) rfl rfl (by kernel_rfl) (by kernel_rfl) (by kernel_rfl) (by rfl) ?_ (by assumption) (fun _ _ _ h => h) ?_
        rotate_left
        · intro w hSw
          go_simp
          with_reducible rfl
        try simp only [Act.put, List.setIfInBounds_toArray, List.set_cons_zero, List.set_cons_succ]
        refine Hand.held_take (i := 10) (d := 46) (v := ?_) rfl rfl (by kernel_rfl) (by kernel_rfl) (by kernel_rfl) (by rfl) ?_ (by assumption) (fun _ _ _ h => h) ?_
        rotate_left
        · intro w hSw
          go_simp
          with_reducible rfl
        try simp only [Act.put, List.setIfInBounds_toArray, List.set_cons_zero, List.set_cons_succ]
        refine wpAnyH_ready (rs := [11]) (by kernel_rfl) (by simp) ?_
        refine AllReadyH.cons rfl (fun K hK => ?_) AllReadyH.nil
        go_simp
        go_wp2_with (refine (HU.out _).mono ?_; rintro e w7 ⟨rfl, hb⟩; have HB7 := Lib.hid hb)
        refine hK.out _ _ ?_ (fun hHeld => ?_)
        · exact seven_keep (by assumption) hb
        clear hK K
        clear hb
        refine Hand.held_take (i := 12) (d := 48) (v := ?_) rfl rfl (by kernel_rfl) (by kernel_rfl) (by kernel_rfl) (by rfl) ?_ (by assumption) (fun _ _ _ h => h) ?_
        rotate_left
        · intro w hSw
          go_simp
          with_reducible rfl
        try simp only [Act.put, List.setIfInBounds_toArray, List.set_cons_zero, List.set_cons_succ]
        refine Hand.held_take (i := 13) (d := 49) (v := ?_) rfl rfl (by kernel_rfl) (by kernel_rfl) (by kernel_rfl) (by rfl) ?_ (by assumption) (fun _ _ _ h => h) ?_
        rotate_left
        · intro w hSw
          go_simp
          with_reducible rfl
        try simp only [Act.put, List.setIfInBounds_toArray, List.set_cons_zero, List.set_cons_succ]
        refine Hand.held_take (i := 14) (d := 50) (v := ?_) rfl rfl (by kernel_rfl) (by kernel_rfl) (by kernel_rfl) (by rfl) ?_ (by assumption) (fun _ _ _ h => h) ?_
        rotate_left
        · intro w hSw
          go_simp
          with_reducible rfl
        try simp only [Act.put, List.setIfInBounds_toArray, List.set_cons_zero, List.set_cons_succ]
        refine Hand.held_take (i := 15) (d := 51) (v := ?_) rfl rfl (by kernel_rfl) (by kernel_rfl) (by kernel_rfl) (by rfl) ?_ (by assumption) (fun _ _ _ h => h) ?_
        rotate_left
        · intro w hSw
          go_simp
          with_reducible rfl
        try simp only [Act.put, List.setIfInBounds_toArray, List.set_cons_zero, List.set_cons_succ]
        refine Hand.held_take (i := 16) (d := 52) (v := ?_) rfl rfl (by kernel_rfl) (by kernel_rfl) (by kernel_rfl) (by rfl) ?_ (by assumption) (fun _ _ _ h => h) ?_
        rotate_left
        · intro w hSw
          go_simp
          with_reducible rfl
        try simp only [Act.put, List.setIfInBounds_toArray, List.set_cons_zero, List.set_cons_succ]
        refine Hand.held_take (i := 17) (d := 53) (v := ?_) rfl rfl (by kernel_rfl) (by kernel_rfl) (by kernel_rfl) (by rfl) ?_ (by assumption) (fun _ _ _ h => h) ?_
        rotate_left
        · intro w hSw
          go_simp
          with_reducible rfl
        try simp only [Act.put, List.setIfInBounds_toArray, List.set_cons_zero, List.set_cons_succ]
        refine Hand.held_take (i := 18) (d := 54) (v := ?_) rfl rfl (by kernel_rfl) (by kernel_rfl) (by kernel_rfl) (by rfl) ?_ (by assumption) (fun _ _ _ h => h) ?_
        rotate_left
        · intro w hSw
          go_simp
          with_reducible rfl
        try simp only [Act.put, List.setIfInBounds_toArray, List.set_cons_zero, List.set_cons_succ]
        refine Hand.held_take (i := 19) (d := 55) (v := ?_) rfl rfl (by kernel_rfl) (by kernel_rfl) (by kernel_rfl) (by rfl) ?_ (by assumption) (fun _ _ _ h => h) ?_
        rotate_left
        · intro w hSw
          go_simp
          with_reducible rfl
        try simp only [Act.put, List.setIfInBounds_toArray, List.set_cons_zero, List.set_cons_succ]
        refine Hand.held_take (i := 20) (d := 56) (v := ?_) rfl rfl (by kernel_rfl) (by kernel_rfl) (by kernel_rfl) (by rfl) ?_ (by assumption) (fun _ _ _ h => h) ?_
        rotate_left
        · intro w hSw
          go_simp
          with_reducible rfl
        try simp only [Act.put, List.setIfInBounds_toArray, List.set_cons_zero, List.set_cons_succ]
        refine Hand.held_take (i := 21) (d := 57) (v := ?_) rfl rfl (by kernel_rfl) (by kernel_rfl) (by kernel_rfl) (by rfl) ?_ (by assumption) (fun _ _ _ h => h) ?_
        rotate_left
        · intro w hSw
          go_simp
          with_reducible rfl
        try simp only [Act.put, List.setIfInBounds_toArray, List.set_cons_zero, List.set_cons_succ]
        refine Hand.held_skip (i := 22) (d := 58) rfl rfl (by kernel_rfl) (by kernel_rfl) (by kernel_rfl) (by rfl) (by assumption) (fun _ _ _ h => h) ?_
        try simp only [Act.put, List.setIfInBounds_toArray, List.set_cons_zero, List.set_cons_succ]
        refine Hand.held_skip (i := 23) (d := 59) rfl rfl (by kernel_rfl) (by kernel_rfl) (by kernel_rfl) (by rfl) (by assumption) (fun _ _ _ h => h) ?_
        try simp only [Act.put, List.setIfInBounds_toArray, List.set_cons_zero, List.set_cons_succ]
        refine Hand.held_skip (i := 24) (d := 60) rfl rfl (by kernel_rfl) (by kernel_rfl) (by kernel_rfl) (by rfl) (by assumption) (fun _ _ _ h => h) ?_
        try simp only [Act.put, List.setIfInBounds_toArray, List.set_cons_zero, List.set_cons_succ]
        refine Hand.held_skip (i := 25) (d := 61) rfl rfl (by kernel_rfl) (by kernel_rfl) (by kernel_rfl) (by rfl) (by assumption) (fun _ _ _ h => h) ?_
        try simp only [Act.put, List.setIfInBounds_toArray, List.set_cons_zero, List.set_cons_succ]
        refine Hand.held_skip (i := 26) (d := 62) rfl rfl (by kernel_rfl) (by kernel_rfl) (by kernel_rfl) (by rfl) (by assumption) (fun _ _ _ h => h) ?_
        try simp only [Act.put, List.setIfInBounds_toArray, List.set_cons_zero, List.set_cons_succ]
        refine Hand.held_take (i := 27) (d := 63) (v := ?_) rfl rfl (by kernel_rfl) (by kernel_rfl) (by kernel_rfl) (by rfl) ?_ (by assumption) (fun _ _ _ h => h) ?_
        rotate_left
        · intro w hSw
          go_simp
          with_reducible rfl
        try simp only [Act.put, List.setIfInBounds_toArray, List.set_cons_zero, List.set_cons_succ]
        refine wpAnyH_done (by kernel_rfl) ?_ _
        clear hHeld
        go_wp2
        go_ret2
        exact .inr ⟨rfl, HBAD.out, below_then HW.out.drew HB7.out⟩
      have d3 : decide (z2 < 0) = false := decide_eq_false hc0
      by_cases hd0 : 2147483647 < z2
      · have HBAD := Lib.hid (show ¬ (fine n G.k zs1 G.U ∧ fine n G.k zs2 2147483647) from fun hh => by have := (hh.2.2 z2 (List.mem_of_getElem? HZ2.out)).2; omega)
        have d4 : decide (2147483647 < z2) = true := decide_eq_true hd0
        clear ha hbg hc0 hd0
        go_wp2_with fail
        refine wp_region_held_drew (S := (fun w' => w'.cell? ⟨w.heap.size, 0, none⟩ = some (.int .i64 G.c) ∧ w'.cell? ⟨w.heap.size, 1, none⟩ = some (.int .i64 G.l) ∧ w'.cell? ⟨w.heap.size, 2, none⟩ = some (.int .i64 G.k) ∧ w'.cell? ⟨w.heap.size, 3, none⟩ = some (.int .i64 G.p) ∧ w'.cell? ⟨w.heap.size, 4, none⟩ = some (.int .i64 G.s) ∧ w'.cell? ⟨b1, o1 + k, none⟩ = some (.int .i64 z1) ∧ w'.cell? ⟨b2, o2 + k, none⟩ = some (.int .i64 z2))) (by kernel_rfl) ?_ (fun hHeld => ?_)
        · exact HC7.out
        refine Hand.held_take (i := 0) (d := 36) (v := ?_) rfl rfl (by kernel_rfl) (by kernel_rfl) (by kernel_rfl) (by rfl) ?_ (by assumption) (fun _ _ _ h => h) ?_
        rotate_left
        · intro w hSw
          go_simp
          with_reducible rfl
        try simp only [Act.put, List.setIfInBounds_toArray, List.set_cons_zero, List.set_cons_succ]
        refine Hand.held_take (i := 1) (d := 37) (v := ?_) rfl rfl (by kernel_rfl) (by kernel_rfl) (by kernel_rfl) (by rfl) ?_ (by assumption) (fun _ _ _ h => h) ?_
        rotate_left
        · intro w hSw
          go_simp
          with_reducible rfl
        try simp only [Act.put, List.setIfInBounds_toArray, List.set_cons_zero, List.set_cons_succ]
        refine Hand.held_take (i := 2) (d := 38) (v := ?_) rfl rfl (by kernel_rfl) (by kernel_rfl) (by kernel_rfl) (by rfl) ?_ (by assumption) (fun _ _ _ h => h) ?_
        rotate_left
        · intro w hSw
          go_simp
          with_reducible rfl
        try simp only [Act.put, List.setIfInBounds_toArray, List.set_cons_zero, List.set_cons_succ]
        refine Hand.held_take (i := 3) (d := 39) (v := ?_) rfl rfl (by kernel_rfl) (by kernel_rfl) (by kernel_rfl) (by rfl) ?_ (by assumption) (fun _ _ _ h => h) ?_
        rotate_left
        · intro w hSw
          go_simp
          with_reducible rfl
        try simp only [Act.put, List.setIfInBounds_toArray, List.set_cons_zero, List.set_cons_succ]
        refine Hand.held_take (i := 4) (d := 40) (v := ?_) rfl rfl (by kernel_rfl) (by kernel_rfl) (by kernel_rfl) (by rfl) ?_ (by assumption) (fun _ _ _ h => h) ?_
        rotate_left
        · intro w hSw
          go_simp
          with_reducible rfl
        try simp only [Act.put, List.setIfInBounds_toArray, List.set_cons_zero, List.set_cons_succ]
        refine Hand.held_take (i := 5) (d := 41) (v := ?_) rfl rfl (by kernel_rfl) (by kernel_rfl) (by kernel_rfl) (by rfl) ?_ (by assumption) (fun _ _ _ h => h) ?_
        rotate_left
        · intro w hSw
          go_simp
          with_reducible rfl
        try simp only [Act.put, List.setIfInBounds_toArray, List.set_cons_zero, List.set_cons_succ]
        refine Hand.held_take (i := 6) (d := 42) (v := ?_) rfl rfl (by kernel_rfl) (by kernel_rfl) (by kernel_rfl) (by rfl) ?_ (by assumption) (fun _ _ _ h => h) ?_
        rotate_left
        · intro w hSw
          go_simp
          with_reducible rfl
        try simp only [Act.put, List.setIfInBounds_toArray, List.set_cons_zero, List.set_cons_succ]
        refine Hand.held_take (i := 7) (d := 43) (v := ?_) rfl rfl (by kernel_rfl) (by kernel_rfl) (by kernel_rfl) (by rfl) ?_ (by assumption) (fun _ _ _ h => h) ?_
        rotate_left
        · intro w hSw
          go_simp
          with_reducible rfl
        try simp only [Act.put, List.setIfInBounds_toArray, List.set_cons_zero, List.set_cons_succ]
        refine Hand.held_take (i := 8) (d := 44) (v := ?_) rfl rfl (by kernel_rfl) (by kernel_rfl) (by kernel_rfl) (by rfl) ?_ (by assumption) (fun _ _ _ h => h) ?_
        rotate_left
        · intro w hSw
          go_simp
          with_reducible rfl
        try simp only [Act.put, List.setIfInBounds_toArray, List.set_cons_zero, List.set_cons_succ]
        refine Hand.held_take (i := 9) (d := 45) (v := ?_) rfl rfl (by kernel_rfl) (by kernel_rfl) (by kernel_rfl) (by rfl) ?_ (by assumption) (fun _ _ _ h => h) ?_
        rotate_left
        · intro w hSw
          go_simp
          with_reducible rfl
        try simp only [Act.put, List.setIfInBounds_toArray, List.set_cons_zero, List.set_cons_succ]
        refine Hand.held_take (i := 10) (d := 46) (v := ?_) rfl rfl (by kernel_rfl) (by kernel_rfl) (by kernel_rfl) (by rfl) ?_ (by assumption) (fun _ _ _ h => h) ?_
        rotate_left
        · intro w hSw
          go_simp
          with_reducible rfl
        try simp only [Act.put, List.setIfInBounds_toArray, List.set_cons_zero, List.set_cons_succ]
        refine wpAnyH_ready (rs := [11]) (by kernel_rfl) (by simp) ?_
        refine AllReadyH.cons rfl (fun K hK => ?_) AllReadyH.nil
        go_simp
        go_wp2_with (refine (HU.out _).mono ?_; rintro e w7 ⟨rfl, hb⟩; have HB7 := Lib.hid hb)
        refine hK.out _ _ ?_ (fun hHeld => ?_)
        · exact seven_keep (by assumption) hb
        clear hK K
        clear hb
        refine Hand.held_take (i := 12) (d := 48) (v := ?_) rfl rfl (by kernel_rfl) (by kernel_rfl) (by kernel_rfl) (by rfl) ?_ (by assumption) (fun _ _ _ h => h) ?_
        rotate_left
        · intro w hSw
          go_simp
          with_reducible rfl
        try simp only [Act.put, List.setIfInBounds_toArray, List.set_cons_zero, List.set_cons_succ]
        refine Hand.held_take (i := 13) (d := 49) (v := ?_) rfl rfl (by kernel_rfl) (by kernel_rfl) (by kernel_rfl) (by rfl) ?_ (by assumption) (fun _ _ _ h => h) ?_
        rotate_left
        · intro w hSw
          go_simp
          with_reducible rfl
        try simp only [Act.put, List.setIfInBounds_toArray, List.set_cons_zero, List.set_cons_succ]
        refine Hand.held_take (i := 14) (d := 50) (v := ?_) rfl rfl (by kernel_rfl) (by kernel_rfl) (by kernel_rfl) (by rfl) ?_ (by assumption) (fun _ _ _ h => h) ?_
        rotate_left
        · intro w hSw
          go_simp
          with_reducible rfl
        try simp only [Act.put, List.setIfInBounds_toArray, List.set_cons_zero, List.set_cons_succ]
        refine Hand.held_take (i := 15) (d := 51) (v := ?_) rfl rfl (by kernel_rfl) (by kernel_rfl) (by kernel_rfl) (by rfl) ?_ (by assumption) (fun _ _ _ h => h) ?_
        rotate_left
        · intro w hSw
          go_simp
          with_reducible rfl
        try simp only [Act.put, List.setIfInBounds_toArray, List.set_cons_zero, List.set_cons_succ]
        refine Hand.held_take (i := 16) (d := 52) (v := ?_) rfl rfl (by kernel_rfl) (by kernel_rfl) (by kernel_rfl) (by rfl) ?_ (by assumption) (fun _ _ _ h => h) ?_
        rotate_left
        · intro w hSw
          go_simp
          with_reducible rfl
        try simp only [Act.put, List.setIfInBounds_toArray, List.set_cons_zero, List.set_cons_succ]
        refine Hand.held_take (i := 17) (d := 53) (v := ?_) rfl rfl (by kernel_rfl) (by kernel_rfl) (by kernel_rfl) (by rfl) ?_ (by assumption) (fun _ _ _ h => h) ?_
        rotate_left
        · intro w hSw
          go_simp
          with_reducible rfl
        try simp only [Act.put, List.setIfInBounds_toArray, List.set_cons_zero, List.set_cons_succ]
        refine Hand.held_take (i := 18) (d := 54) (v := ?_) rfl rfl (by kernel_rfl) (by kernel_rfl) (by kernel_rfl) (by rfl) ?_ (by assumption) (fun _ _ _ h => h) ?_
        rotate_left
        · intro w hSw
          go_simp
          with_reducible rfl
        try simp only [Act.put, List.setIfInBounds_toArray, List.set_cons_zero, List.set_cons_succ]
        refine Hand.held_take (i := 19) (d := 55) (v := ?_) rfl rfl (by kernel_rfl) (by kernel_rfl) (by kernel_rfl) (by rfl) ?_ (by assumption) (fun _ _ _ h => h) ?_
        rotate_left
        · intro w hSw
          go_simp
          with_reducible rfl
        try simp only [Act.put, List.setIfInBounds_toArray, List.set_cons_zero, List.set_cons_succ]
        refine Hand.held_take (i := 20) (d := 56) (v := ?_) rfl rfl (by kernel_rfl) (by kernel_rfl) (by kernel_rfl) (by rfl) ?_ (by assumption) (fun _ _ _ h => h) ?_
        rotate_left
        · intro w hSw
          go_simp
          with_reducible rfl
        try simp only [Act.put, List.setIfInBounds_toArray, List.set_cons_zero, List.set_cons_succ]
        refine Hand.held_take (i := 21) (d := 57) (v := ?_) rfl rfl (by kernel_rfl) (by kernel_rfl) (by kernel_rfl) (by rfl) ?_ (by assumption) (fun _ _ _ h => h) ?_
        rotate_left
        · intro w hSw
          go_simp
          with_reducible rfl
        try simp only [Act.put, List.setIfInBounds_toArray, List.set_cons_zero, List.set_cons_succ]
        refine Hand.held_take (i := 22) (d := 58) (v := ?_) rfl rfl (by kernel_rfl) (by kernel_rfl) (by kernel_rfl) (by rfl) ?_ (by assumption) (fun _ _ _ h => h) ?_
        rotate_left
        · intro w hSw
          go_simp
          with_reducible rfl
        try simp only [Act.put, List.setIfInBounds_toArray, List.set_cons_zero, List.set_cons_succ]
        refine Hand.held_take (i := 23) (d := 59) (v := ?_) rfl rfl (by kernel_rfl) (by kernel_rfl) (by kernel_rfl) (by rfl) ?_ (by assumption) (fun _ _ _ h => h) ?_
        rotate_left
        · intro w hSw
          go_simp
          with_reducible rfl
        try simp only [Act.put, List.setIfInBounds_toArray, List.set_cons_zero, List.set_cons_succ]
        refine Hand.held_take (i := 24) (d := 60) (v := ?_) rfl rfl (by kernel_rfl) (by kernel_rfl) (by kernel_rfl) (by rfl) ?_ (by assumption) (fun _ _ _ h => h) ?_
        rotate_left
        · intro w hSw
          go_simp
          with_reducible rfl
        try simp only [Act.put, List.setIfInBounds_toArray, List.set_cons_zero, List.set_cons_succ]
        refine Hand.held_take (i := 25) (d := 61) (v := ?_) rfl rfl (by kernel_rfl) (by kernel_rfl) (by kernel_rfl) (by rfl) ?_ (by assumption) (fun _ _ _ h => h) ?_
        rotate_left
        · intro w hSw
          go_simp
          with_reducible rfl
        try simp only [Act.put, List.setIfInBounds_toArray, List.set_cons_zero, List.set_cons_succ]
        refine Hand.held_take (i := 26) (d := 62) (v := ?_) rfl rfl (by kernel_rfl) (by kernel_rfl) (by kernel_rfl) (by rfl) ?_ (by assumption) (fun _ _ _ h => h) ?_
        rotate_left
        · intro w hSw
          go_simp
          with_reducible rfl
        try simp only [Act.put, List.setIfInBounds_toArray, List.set_cons_zero, List.set_cons_succ]
        refine Hand.held_take (i := 27) (d := 63) (v := ?_) rfl rfl (by kernel_rfl) (by kernel_rfl) (by kernel_rfl) (by rfl) ?_ (by assumption) (fun _ _ _ h => h) ?_
        rotate_left
        · intro w hSw
          go_simp
          with_reducible rfl
        try simp only [Act.put, List.setIfInBounds_toArray, List.set_cons_zero, List.set_cons_succ]
        refine wpAnyH_done (by kernel_rfl) ?_ _
        clear hHeld
        go_wp2
        go_ret2
        exact .inr ⟨rfl, HBAD.out, below_then HW.out.drew HB7.out⟩
      have d4 : decide (2147483647 < z2) = false := decide_eq_false hd0
      have HOKZ := Lib.hid (show (0 ≤ z1 ∧ z1 ≤ G.U) ∧ 0 ≤ z2 ∧ z2 ≤ 2147483647 by omega)
      clear ha hbg hc0 hd0
      go_wp2_with fail
      refine wp_region_held_drew (S := (fun w' => w'.cell? ⟨w.heap.size, 0, none⟩ = some (.int .i64 G.c) ∧ w'.cell? ⟨w.heap.size, 1, none⟩ = some (.int .i64 G.l) ∧ w'.cell? ⟨w.heap.size, 2, none⟩ = some (.int .i64 G.k) ∧ w'.cell? ⟨w.heap.size, 3, none⟩ = some (.int .i64 G.p) ∧ w'.cell? ⟨w.heap.size, 4, none⟩ = some (.int .i64 G.s) ∧ w'.cell? ⟨b1, o1 + k, none⟩ = some (.int .i64 z1) ∧ w'.cell? ⟨b2, o2 + k, none⟩ = some (.int .i64 z2))) (by kernel_rfl) ?_ (fun hHeld => ?_)
      · exact HC7.out
      refine Hand.held_take (i := 0) (d := 36) (v := ?_) rfl rfl (by kernel_rfl) (by kernel_rfl) (by kernel_rfl) (by rfl) ?_ (by assumption) (fun _ _ _ h => h) ?_
      rotate_left
      · intro w hSw
        go_simp
        with_reducible rfl
      try simp only [Act.put, List.setIfInBounds_toArray, List.set_cons_zero, List.set_cons_succ]
      refine Hand.held_take (i := 1) (d := 37) (v := ?_) rfl rfl (by kernel_rfl) (by kernel_rfl) (by kernel_rfl) (by rfl) ?_ (by assumption) (fun _ _ _ h => h) ?_
      rotate_left
      · intro w hSw
        go_simp
        with_reducible rfl
      try simp only [Act.put, List.setIfInBounds_toArray, List.set_cons_zero, List.set_cons_succ]
      refine Hand.held_take (i := 2) (d := 38) (v := ?_) rfl rfl (by kernel_rfl) (by kernel_rfl) (by kernel_rfl) (by rfl) ?_ (by assumption) (fun _ _ _ h => h) ?_
      rotate_left
      · intro w hSw
        go_simp
        with_reducible rfl
      try simp only [Act.put, List.setIfInBounds_toArray, List.set_cons_zero, List.set_cons_succ]
      refine Hand.held_take (i := 3) (d := 39) (v := ?_) rfl rfl (by kernel_rfl) (by kernel_rfl) (by kernel_rfl) (by rfl) ?_ (by assumption) (fun _ _ _ h => h) ?_
      rotate_left
      · intro w hSw
        go_simp
        with_reducible rfl
      try simp only [Act.put, List.setIfInBounds_toArray, List.set_cons_zero, List.set_cons_succ]
      refine Hand.held_take (i := 4) (d := 40) (v := ?_) rfl rfl (by kernel_rfl) (by kernel_rfl) (by kernel_rfl) (by rfl) ?_ (by assumption) (fun _ _ _ h => h) ?_
      rotate_left
      · intro w hSw
        go_simp
        with_reducible rfl
      try simp only [Act.put, List.setIfInBounds_toArray, List.set_cons_zero, List.set_cons_succ]
      refine Hand.held_take (i := 5) (d := 41) (v := ?_) rfl rfl (by kernel_rfl) (by kernel_rfl) (by kernel_rfl) (by rfl) ?_ (by assumption) (fun _ _ _ h => h) ?_
      rotate_left
      · intro w hSw
        go_simp
        with_reducible rfl
      try simp only [Act.put, List.setIfInBounds_toArray, List.set_cons_zero, List.set_cons_succ]
      refine Hand.held_take (i := 6) (d := 42) (v := ?_) rfl rfl (by kernel_rfl) (by kernel_rfl) (by kernel_rfl) (by rfl) ?_ (by assumption) (fun _ _ _ h => h) ?_
      rotate_left
      · intro w hSw
        go_simp
        with_reducible rfl
      try simp only [Act.put, List.setIfInBounds_toArray, List.set_cons_zero, List.set_cons_succ]
      refine Hand.held_take (i := 7) (d := 43) (v := ?_) rfl rfl (by kernel_rfl) (by kernel_rfl) (by kernel_rfl) (by rfl) ?_ (by assumption) (fun _ _ _ h => h) ?_
      rotate_left
      · intro w hSw
        go_simp
        with_reducible rfl
      try simp only [Act.put, List.setIfInBounds_toArray, List.set_cons_zero, List.set_cons_succ]
      refine Hand.held_take (i := 8) (d := 44) (v := ?_) rfl rfl (by kernel_rfl) (by kernel_rfl) (by kernel_rfl) (by rfl) ?_ (by assumption) (fun _ _ _ h => h) ?_
      rotate_left
      · intro w hSw
        go_simp
        with_reducible rfl
      try simp only [Act.put, List.setIfInBounds_toArray, List.set_cons_zero, List.set_cons_succ]
      refine Hand.held_take (i := 9) (d := 45) (v := ?_) rfl rfl (by kernel_rfl) (by kernel_rfl) (by kernel_rfl) (by rfl) ?_ (by assumption) (fun _ _ _ h => h) ?_
      rotate_left
      · intro w hSw
        go_simp
        with_reducible rfl
      try simp only [Act.put, List.setIfInBounds_toArray, List.set_cons_zero, List.set_cons_succ]
      refine Hand.held_take (i := 10) (d := 46) (v := ?_) rfl rfl (by kernel_rfl) (by kernel_rfl) (by kernel_rfl) (by rfl) ?_ (by assumption) (fun _ _ _ h => h) ?_
      rotate_left
      · intro w hSw
        go_simp
        with_reducible rfl
      try simp only [Act.put, List.setIfInBounds_toArray, List.set_cons_zero, List.set_cons_succ]
      refine wpAnyH_ready (rs := [11]) (by kernel_rfl) (by simp) ?_
      refine AllReadyH.cons rfl (fun K hK => ?_) AllReadyH.nil
      go_simp
      go_wp2_with (refine (HU.out _).mono ?_; rintro e w7 ⟨rfl, hb⟩; have HB7 := Lib.hid hb)
      refine hK.out _ _ ?_ (fun hHeld => ?_)
      · exact seven_keep (by assumption) hb
      clear hK K
      clear hb
      refine Hand.held_take (i := 12) (d := 48) (v := ?_) rfl rfl (by kernel_rfl) (by kernel_rfl) (by kernel_rfl) (by rfl) ?_ (by assumption) (fun _ _ _ h => h) ?_
      rotate_left
      · intro w hSw
        go_simp
        with_reducible rfl
      try simp only [Act.put, List.setIfInBounds_toArray, List.set_cons_zero, List.set_cons_succ]
      refine Hand.held_take (i := 13) (d := 49) (v := ?_) rfl rfl (by kernel_rfl) (by kernel_rfl) (by kernel_rfl) (by rfl) ?_ (by assumption) (fun _ _ _ h => h) ?_
      rotate_left
      · intro w hSw
        go_simp
        with_reducible rfl
      try simp only [Act.put, List.setIfInBounds_toArray, List.set_cons_zero, List.set_cons_succ]
      refine Hand.held_take (i := 14) (d := 50) (v := ?_) rfl rfl (by kernel_rfl) (by kernel_rfl) (by kernel_rfl) (by rfl) ?_ (by assumption) (fun _ _ _ h => h) ?_
      rotate_left
      · intro w hSw
        go_simp
        with_reducible rfl
      try simp only [Act.put, List.setIfInBounds_toArray, List.set_cons_zero, List.set_cons_succ]
      refine Hand.held_take (i := 15) (d := 51) (v := ?_) rfl rfl (by kernel_rfl) (by kernel_rfl) (by kernel_rfl) (by rfl) ?_ (by assumption) (fun _ _ _ h => h) ?_
      rotate_left
      · intro w hSw
        go_simp
        with_reducible rfl
      try simp only [Act.put, List.setIfInBounds_toArray, List.set_cons_zero, List.set_cons_succ]
      refine Hand.held_take (i := 16) (d := 52) (v := ?_) rfl rfl (by kernel_rfl) (by kernel_rfl) (by kernel_rfl) (by rfl) ?_ (by assumption) (fun _ _ _ h => h) ?_
      rotate_left
      · intro w hSw
        go_simp
        with_reducible rfl
      try simp only [Act.put, List.setIfInBounds_toArray, List.set_cons_zero, List.set_cons_succ]
      refine Hand.held_take (i := 17) (d := 53) (v := ?_) rfl rfl (by kernel_rfl) (by kernel_rfl) (by kernel_rfl) (by rfl) ?_ (by assumption) (fun _ _ _ h => h) ?_
      rotate_left
      · intro w hSw
        go_simp
        with_reducible rfl
      try simp only [Act.put, List.setIfInBounds_toArray, List.set_cons_zero, List.set_cons_succ]
      refine Hand.held_take (i := 18) (d := 54) (v := ?_) rfl rfl (by kernel_rfl) (by kernel_rfl) (by kernel_rfl) (by rfl) ?_ (by assumption) (fun _ _ _ h => h) ?_
      rotate_left
      · intro w hSw
        go_simp
        with_reducible rfl
      try simp only [Act.put, List.setIfInBounds_toArray, List.set_cons_zero, List.set_cons_succ]
      refine Hand.held_take (i := 19) (d := 55) (v := ?_) rfl rfl (by kernel_rfl) (by kernel_rfl) (by kernel_rfl) (by rfl) ?_ (by assumption) (fun _ _ _ h => h) ?_
      rotate_left
      · intro w hSw
        go_simp
        with_reducible rfl
      try simp only [Act.put, List.setIfInBounds_toArray, List.set_cons_zero, List.set_cons_succ]
      refine Hand.held_take (i := 20) (d := 56) (v := ?_) rfl rfl (by kernel_rfl) (by kernel_rfl) (by kernel_rfl) (by rfl) ?_ (by assumption) (fun _ _ _ h => h) ?_
      rotate_left
      · intro w hSw
        go_simp
        with_reducible rfl
      try simp only [Act.put, List.setIfInBounds_toArray, List.set_cons_zero, List.set_cons_succ]
      refine Hand.held_take (i := 21) (d := 57) (v := ?_) rfl rfl (by kernel_rfl) (by kernel_rfl) (by kernel_rfl) (by rfl) ?_ (by assumption) (fun _ _ _ h => h) ?_
      rotate_left
      · intro w hSw
        go_simp
        with_reducible rfl
      try simp only [Act.put, List.setIfInBounds_toArray, List.set_cons_zero, List.set_cons_succ]
      refine Hand.held_take (i := 22) (d := 58) (v := ?_) rfl rfl (by kernel_rfl) (by kernel_rfl) (by kernel_rfl) (by rfl) ?_ (by assumption) (fun _ _ _ h => h) ?_
      rotate_left
      · intro w hSw
        go_simp
        with_reducible rfl
      try simp only [Act.put, List.setIfInBounds_toArray, List.set_cons_zero, List.set_cons_succ]
      refine Hand.held_take (i := 23) (d := 59) (v := ?_) rfl rfl (by kernel_rfl) (by kernel_rfl) (by kernel_rfl) (by rfl) ?_ (by assumption) (fun _ _ _ h => h) ?_
      rotate_left
      · intro w hSw
        go_simp
        with_reducible rfl
      try simp only [Act.put, List.setIfInBounds_toArray, List.set_cons_zero, List.set_cons_succ]
      refine Hand.held_take (i := 24) (d := 60) (v := ?_) rfl rfl (by kernel_rfl) (by kernel_rfl) (by kernel_rfl) (by rfl) ?_ (by assumption) (fun _ _ _ h => h) ?_
      rotate_left
      · intro w hSw
        go_simp
        with_reducible rfl
      try simp only [Act.put, List.setIfInBounds_toArray, List.set_cons_zero, List.set_cons_succ]
      refine Hand.held_take (i := 25) (d := 61) (v := ?_) rfl rfl (by kernel_rfl) (by kernel_rfl) (by kernel_rfl) (by rfl) ?_ (by assumption) (fun _ _ _ h => h) ?_
      rotate_left
      · intro w hSw
        go_simp
        with_reducible rfl
      try simp only [Act.put, List.setIfInBounds_toArray, List.set_cons_zero, List.set_cons_succ]
      refine Hand.held_take (i := 26) (d := 62) (v := ?_) rfl rfl (by kernel_rfl) (by kernel_rfl) (by kernel_rfl) (by rfl) ?_ (by assumption) (fun _ _ _ h => h) ?_
      rotate_left
      · intro w hSw
        go_simp
        with_reducible rfl
      try simp only [Act.put, List.setIfInBounds_toArray, List.set_cons_zero, List.set_cons_succ]
      refine Hand.held_take (i := 27) (d := 63) (v := ?_) rfl rfl (by kernel_rfl) (by kernel_rfl) (by kernel_rfl) (by rfl) ?_ (by assumption) (fun _ _ _ h => h) ?_
      rotate_left
      · intro w hSw
        go_simp
        with_reducible rfl
      try simp only [Act.put, List.setIfInBounds_toArray, List.set_cons_zero, List.set_cons_succ]
      refine wpAnyH_done (by kernel_rfl) ?_ _
      replace hHeld := seven_keep hHeld (Below.refl _ _)
      have HS := Lib.hid hHeld
      have HW7 := Lib.hid (below_then HW.out.drew HB7.out)
      have HH7 := Lib.hid ((HB7.out.block r hrl).trans HH.out)
      have HROW7 : Hid (OwnR w7 (w.heap.size + 1) 45 5 v (rowsOf (LinesPkg.start zs1 zs2) k)) := Lib.hid (HROW.out.keep fun b hb => HB7.out.block b (HROW.out.lt b hb))
      clear hHeld k0 k1 k2 k3 k4 hc hz hrl HH HROW HW HGO HB7 HC7
      have HFR := Lib.hid (fun w => free_any z1 w)
      have HLN := Lib.hid (show lnL ex2 (LinesPkg.start zs1 zs2 k) = [.int .i64 (freeSt z1), .int .i64 z2, .int .i64 z1, .int .i64 0, .int .i64 0] by
        unfold LinesPkg.start
        rw [HZ1.out, HZ2.out]
        rfl)
      obtain ⟨v4, w4, hrun0, hrow4, hg4, hl4⟩ := run_append_row (P := Try.prog) w7.drew (w.heap.size + 1) 43 43 45 5 40 (by omega) (by omega) Try.underlying43 infoLine v _ (HROW7.out.keep fun _ _ => rfl) (lnL ex2 (LinesPkg.start zs1 zs2 k)) (by rw [HLN.out]; rfl) (by intro u hu; rw [HLN.out] at hu; simp only [List.mem_cons, List.not_mem_nil, or_false] at hu; rcases hu with rfl | rfl | rfl | rfl | rfl <;> rfl) (by rw [rowsOf_len]; omega) (by have := HW7.out.size; have h2 := (Array.getElem?_eq_some_iff.1 HH7.out).1; have h3 := HRR.out; show w.heap.size + 1 ≤ w7.heap.size; omega)
      rw [← rowsOf_more] at hrow4
      rw [HLN.out] at hrun0 hg4
      have hrun : ∀ ty, (Builtin.append_ #[43, 43] ty #[v, .slice (some ⟨w7.heap.size, 0, none⟩) 1 1]).run Try.prog (w7.alloc (.cells #[.int .i64 (freeSt z1), .int .i64 z2, .int .i64 z1, .int .i64 0, .int .i64 0] 45)).drew = .ok v4 w4 := fun ty => hrun0
      obtain ⟨_, _, _, _, _, e1, e2⟩ := HS.out
      have hal : Below w7.heap.size w7 (w7.alloc (.cells #[.int .i64 (freeSt z1), .int .i64 z2, .int .i64 z1, .int .i64 0, .int .i64 0] 45)) := (Below.refl _ _).alloc (Nat.le_refl _) _
      have hrl7 := (Array.getElem?_eq_some_iff.1 HH7.out).1
      have hh4 : w4.heap[r]? = some (.cells (hd G v) 65 (0, 0)) := by
        rw [hg4.block r (by show r < (w7.alloc _).heap.size; simp; omega) (fun e => HNE.out e.symm)]
        exact (hal.block r hrl7).trans HH7.out
      have hne4 : v4.ownBlock ≠ some r := fun e => (hl4 r e).elim HNE.out (fun h => by have h : w7.heap.size < r := h; omega)
      have hbw4 : Below w.heap.size w w4 := (HW7.out.trans (hal.mono HW7.out.size)).grown (show (w7.alloc (.cells #[.int .i64 (freeSt z1), .int .i64 z2, .int .i64 z1, .int .i64 0, .int .i64 0] 45)).grownBy w4 v.ownBlock from ⟨hg4.os, hg4.tape, hg4.output, hg4.size, hg4.block⟩) (Nat.le_trans HW7.out.size hal.size) (fun j e => by have := HROW7.out.block j e; omega)
      have hgeo4 : Geo w4 w.heap.size G.c G.l G.k G.p G.s := by
        have hgl : w.heap.size < w7.heap.size := Nat.lt_trans HRR.out hrl7
        have hbk : w4.heap[w.heap.size]? = w7.heap[w.heap.size]? := (hg4.block w.heap.size (by show w.heap.size < (w7.alloc _).heap.size; simp; omega) (fun e => by have := HROW7.out.block _ e.symm; omega)).trans (hal.block _ hgl)
        obtain ⟨a0, a1, a2, a3, a4, _⟩ := HS.out
        exact ⟨(World.cell?_of_block (w := w7) hbk).trans a0, (World.cell?_of_block (w := w7) hbk).trans a1, (World.cell?_of_block (w := w7) hbk).trans a2, (World.cell?_of_block (w := w7) hbk).trans a3, (World.cell?_of_block (w := w7) hbk).trans a4⟩
      obtain ⟨hc4, hz4⟩ := hd_cell hh4
      obtain ⟨hc7, _⟩ := hd_cell HH7.out
      have hc7a := cell_stays hal hc7
      have e1a := cell_stays hal e1
      have e2a := cell_stays hal e2
      have e1d : w7.drew.cell? ⟨b1, o1 + k, none⟩ = some (.int .i64 z1) := e1
      have e2d : w7.drew.cell? ⟨b2, o2 + k, none⟩ = some (.int .i64 z2) := e2
      have hc7d : w7.drew.cell? ⟨r, 5, none⟩ = some v := hc7
      obtain ⟨A4, c4, hv4, _⟩ := hrow4.form
      subst hv4
      have HH4 := Lib.hid hh4
      have HROW4 := Lib.hid hrow4
      have HNE4 := Lib.hid hne4
      have HBW4 := Lib.hid hbw4
      have HG4 := Lib.hid hgeo4
      have HF4 := Lib.hid (show ∀ q, q < k + 1 → ∀ x y, zs1[q]? = some x → zs2[q]? = some y → (0 ≤ x ∧ x ≤ G.U) ∧ 0 ≤ y ∧ y ≤ 2147483647 from fun q hq x y hx hy => by
        by_cases e : q = k
        · subst e
          rw [HZ1.out] at hx
          rw [HZ2.out] at hy
          injection hx with hx
          injection hy with hy
          subst hx hy
          exact HOKZ.out
        · exact HF.out q (by omega) x y hx hy)
      have hoff : ∀ (b : Nat), b < w.heap.size → w4.heap[b]? = w7.heap[b]? := fun b hb => (hg4.block b (by have := HW7.out.size; show b < (w7.alloc _).heap.size; simp; omega) (fun e => by have := HROW7.out.block _ e.symm; omega)).trans (hal.block _ (by have := HW7.out.size; omega))
      have e14 := (World.cell?_of_block (w := w7) (a := ⟨b1, o1 + k, none⟩) (hoff b1 HBL1.out)).trans e1
      have e24 := (World.cell?_of_block (w := w7) (a := ⟨b2, o2 + k, none⟩) (hoff b2 HBL2.out)).trans e2
      have e15 := (World.cell?_setCell_other w4 ⟨r, 5, none⟩ ⟨b1, o1 + k, none⟩ (.slice A4 (rowsOf (LinesPkg.start zs1 zs2) (k + 1)).length c4) (fun e => by have h1 := HBL1.out; have h2 := HRR.out; injection e with e; omega)).trans e14
      have e25 := (World.cell?_setCell_other w4 ⟨r, 5, none⟩ ⟨b2, o2 + k, none⟩ (.slice A4 (rowsOf (LinesPkg.start zs1 zs2) (k + 1)).length c4) (fun e => by have h1 := HBL2.out; have h2 := HRR.out; injection e with e; omega)).trans e24
      have hg5 : ∀ u : Value, Geo (w4.setCell ⟨r, 5, none⟩ u) w.heap.size G.c G.l G.k G.p G.s := fun u => by
        have hb : (w4.setCell ⟨r, 5, none⟩ u).heap[w.heap.size]? = w4.heap[w.heap.size]? := Below.heap_setCell w4 ⟨r, 5, none⟩ u w.heap.size (by have := HRR.out; show w.heap.size ≠ r; omega)
        exact ⟨(World.cell?_of_block (w := w4) hb).trans HG4.out.1, (World.cell?_of_block (w := w4) hb).trans HG4.out.2.1, (World.cell?_of_block (w := w4) hb).trans HG4.out.2.2.1, (World.cell?_of_block (w := w4) hb).trans HG4.out.2.2.2.1, (World.cell?_of_block (w := w4) hb).trans HG4.out.2.2.2.2⟩
      have HG5 := Lib.hid (hg5 (.slice A4 (rowsOf (LinesPkg.start zs1 zs2) (k + 1)).length c4))
      clear hoff hg5
      clear hh4 hrow4 hne4 hbw4 hgeo4 hal hg4 hl4 hrl7 hrun0 HLN d1 d2 d3 d4
      subst hv
      go_wp2
      refine wp_region_held_drew (S := (fun w' => w'.cell? ⟨b1, o1 + k, none⟩ = some (.int .i64 z1) ∧ w'.cell? ⟨b2, o2 + k, none⟩ = some (.int .i64 z2))) (by kernel_rfl) ?_ (fun hHeld => ?_)
      · exact ⟨e1d, e2d⟩
      refine Hand.held_take (i := 0) (d := 64) (v := ?_) rfl rfl (by kernel_rfl) (by kernel_rfl) (by kernel_rfl) (by rfl) ?_ (by assumption) (fun _ _ _ h => h) ?_
      rotate_left
      · intro w hSw
        go_simp
        with_reducible rfl
      try simp only [Act.put, List.setIfInBounds_toArray, List.set_cons_zero, List.set_cons_succ]
      refine Hand.held_take (i := 1) (d := 65) (v := ?_) rfl rfl (by kernel_rfl) (by kernel_rfl) (by kernel_rfl) (by rfl) ?_ (by assumption) (fun _ _ _ h => h) ?_
      rotate_left
      · intro w hSw
        go_simp
        with_reducible rfl
      try simp only [Act.put, List.setIfInBounds_toArray, List.set_cons_zero, List.set_cons_succ]
      refine Hand.held_take (i := 2) (d := 66) (v := ?_) rfl rfl (by kernel_rfl) (by kernel_rfl) (by kernel_rfl) (by rfl) ?_ (by assumption) (fun _ _ _ h => h) ?_
      rotate_left
      · intro w hSw
        go_simp
        with_reducible rfl
      try simp only [Act.put, List.setIfInBounds_toArray, List.set_cons_zero, List.set_cons_succ]
      refine Hand.held_take (i := 3) (d := 67) (v := ?_) rfl rfl (by kernel_rfl) (by kernel_rfl) (by kernel_rfl) (by rfl) ?_ (by assumption) (fun _ _ _ h => h) ?_
      rotate_left
      · intro w hSw
        go_simp
        with_reducible rfl
      try simp only [Act.put, List.setIfInBounds_toArray, List.set_cons_zero, List.set_cons_succ]
      refine Hand.held_take (i := 5) (d := 69) (v := ?_) rfl rfl (by kernel_rfl) (by kernel_rfl) (by kernel_rfl) (by rfl) ?_ (by assumption) (fun _ _ _ h => h) ?_
      rotate_left
      · intro w hSw
        go_simp
        with_reducible rfl
      try simp only [Act.put, List.setIfInBounds_toArray, List.set_cons_zero, List.set_cons_succ]
      refine Hand.held_take (i := 6) (d := 70) (v := ?_) rfl rfl (by kernel_rfl) (by kernel_rfl) (by kernel_rfl) (by rfl) ?_ (by assumption) (fun _ _ _ h => h) ?_
      rotate_left
      · intro w hSw
        go_simp
        with_reducible rfl
      try simp only [Act.put, List.setIfInBounds_toArray, List.set_cons_zero, List.set_cons_succ]
      refine Hand.held_take (i := 7) (d := 71) (v := ?_) rfl rfl (by kernel_rfl) (by kernel_rfl) (by kernel_rfl) (by rfl) ?_ (by assumption) (fun _ _ _ h => h) ?_
      rotate_left
      · intro w hSw
        go_simp
        with_reducible rfl
      try simp only [Act.put, List.setIfInBounds_toArray, List.set_cons_zero, List.set_cons_succ]
      refine Hand.held_take (i := 8) (d := 72) (v := ?_) rfl rfl (by kernel_rfl) (by kernel_rfl) (by kernel_rfl) (by rfl) ?_ (by assumption) (fun _ _ _ h => h) ?_
      rotate_left
      · intro w hSw
        go_simp
        with_reducible rfl
      try simp only [Act.put, List.setIfInBounds_toArray, List.set_cons_zero, List.set_cons_succ]
      refine Hand.held_take (i := 10) (d := 74) (v := ?_) rfl rfl (by kernel_rfl) (by kernel_rfl) (by kernel_rfl) (by rfl) ?_ (by assumption) (fun _ _ _ h => h) ?_
      rotate_left
      · intro w hSw
        go_simp
        with_reducible rfl
      try simp only [Act.put, List.setIfInBounds_toArray, List.set_cons_zero, List.set_cons_succ]
      refine Hand.held_take (i := 11) (d := 75) (v := ?_) rfl rfl (by kernel_rfl) (by kernel_rfl) (by kernel_rfl) (by rfl) ?_ (by assumption) (fun _ _ _ h => h) ?_
      rotate_left
      · intro w hSw
        go_simp
        with_reducible rfl
      try simp only [Act.put, List.setIfInBounds_toArray, List.set_cons_zero, List.set_cons_succ]
      refine Hand.held_take (i := 12) (d := 76) (v := ?_) rfl rfl (by kernel_rfl) (by kernel_rfl) (by kernel_rfl) (by rfl) ?_ (by assumption) (fun _ _ _ h => h) ?_
      rotate_left
      · intro w hSw
        go_simp
        with_reducible rfl
      try simp only [Act.put, List.setIfInBounds_toArray, List.set_cons_zero, List.set_cons_succ]
      refine Hand.held_take (i := 13) (d := 77) (v := ?_) rfl rfl (by kernel_rfl) (by kernel_rfl) (by kernel_rfl) (by rfl) ?_ (by assumption) (fun _ _ _ h => h) ?_
      rotate_left
      · intro w hSw
        go_simp
        with_reducible rfl
      try simp only [Act.put, List.setIfInBounds_toArray, List.set_cons_zero, List.set_cons_succ]
      refine Hand.held_take (i := 14) (d := 78) (v := ?_) rfl rfl (by kernel_rfl) (by kernel_rfl) (by kernel_rfl) (by rfl) ?_ (by assumption) (fun _ _ _ h => h) ?_
      rotate_left
      · intro w hSw
        go_simp
        with_reducible rfl
      try simp only [Act.put, List.setIfInBounds_toArray, List.set_cons_zero, List.set_cons_succ]
      refine Hand.held_take (i := 15) (d := 79) (v := ?_) rfl rfl (by kernel_rfl) (by kernel_rfl) (by kernel_rfl) (by rfl) ?_ (by assumption) (fun _ _ _ h => h) ?_
      rotate_left
      · intro w hSw
        go_simp
        with_reducible rfl
      try simp only [Act.put, List.setIfInBounds_toArray, List.set_cons_zero, List.set_cons_succ]
      refine Hand.held_take (i := 16) (d := 80) (v := ?_) rfl rfl (by kernel_rfl) (by kernel_rfl) (by kernel_rfl) (by rfl) ?_ (by assumption) (fun _ _ _ h => h) ?_
      rotate_left
      · intro w hSw
        go_simp
        with_reducible rfl
      try simp only [Act.put, List.setIfInBounds_toArray, List.set_cons_zero, List.set_cons_succ]
      refine Hand.held_take (i := 17) (d := 81) (v := ?_) rfl rfl (by kernel_rfl) (by kernel_rfl) (by kernel_rfl) (by rfl) ?_ (by assumption) (fun _ _ _ h => h) ?_
      rotate_left
      · intro w hSw
        go_simp
        with_reducible rfl
      try simp only [Act.put, List.setIfInBounds_toArray, List.set_cons_zero, List.set_cons_succ]
      refine wpAnyH_ready (rs := [4, 9]) (by kernel_rfl) (by simp) ?_
      refine AllReadyH.cons rfl (fun K hK => ?_) (AllReadyH.cons rfl (fun K hK => ?_) AllReadyH.nil)
      · go_simp
        refine hK.out _ _ ?_ (fun hHeld => ?_)
        · first | exact ⟨e1d, e2d⟩ | exact ⟨e1, e2⟩ | exact ⟨e1a, e2a⟩ | exact ⟨e14, e24⟩ | exact ⟨e15, e25⟩
        clear hK K
        refine wpAnyH_ready (rs := [9]) (by kernel_rfl) (by simp) ?_
        refine AllReadyH.cons rfl (fun K hK => ?_) AllReadyH.nil
        go_simp
        go_wp2_with (first | (go_at_call 30; refine (HFR.out _).mono ?_; rintro e w9 ⟨rfl, hw⟩; subst w9))
        refine hK.out _ _ ?_ (fun hHeld => ?_)
        · first | exact ⟨e1d, e2d⟩ | exact ⟨e1, e2⟩ | exact ⟨e1a, e2a⟩ | exact ⟨e14, e24⟩ | exact ⟨e15, e25⟩
        clear hK K
        refine Hand.held_take (i := 18) (d := 82) (v := ?_) rfl rfl (by kernel_rfl) (by kernel_rfl) (by kernel_rfl) (by rfl) ?_ (by assumption) (fun _ _ _ h => h) ?_
        rotate_left
        · intro w hSw
          go_simp
          with_reducible rfl
        try simp only [Act.put, List.setIfInBounds_toArray, List.set_cons_zero, List.set_cons_succ]
        refine wpAnyH_ready (rs := [19]) (by kernel_rfl) (by simp) ?_
        refine AllReadyH.cons rfl (fun K hK => ?_) AllReadyH.nil
        go_simp
        refine hK.out _ _ ?_ (fun hHeld => ?_)
        · first | exact ⟨e1d, e2d⟩ | exact ⟨e1, e2⟩ | exact ⟨e1a, e2a⟩ | exact ⟨e14, e24⟩ | exact ⟨e15, e25⟩
        clear hK K
        refine wpAnyH_ready (rs := [20]) (by kernel_rfl) (by simp) ?_
        refine AllReadyH.cons rfl (fun K hK => ?_) AllReadyH.nil
        refine step_append_run (o := ⟨some 84, _, _, _, _, _⟩) (by rfl) (.tmp 68) (.tmp 83) 43 (by rfl) (.slice A k cc) (.slice (some ⟨w7.heap.size, 0, none⟩) 1 1) _ (by rfl) (by rfl) hrun ?_
        refine hK.out _ _ ?_ (fun hHeld => ?_)
        · first | exact ⟨e1d, e2d⟩ | exact ⟨e1, e2⟩ | exact ⟨e1a, e2a⟩ | exact ⟨e14, e24⟩ | exact ⟨e15, e25⟩
        clear hK K
        refine Hand.held_take (i := 21) (d := 85) (v := ?_) rfl rfl (by kernel_rfl) (by kernel_rfl) (by kernel_rfl) (by rfl) ?_ (by assumption) (fun _ _ _ h => h) ?_
        rotate_left
        · intro w hSw
          go_simp
          with_reducible rfl
        try simp only [Act.put, List.setIfInBounds_toArray, List.set_cons_zero, List.set_cons_succ]
        refine Hand.held_take (i := 22) (d := 86) (v := ?_) rfl rfl (by kernel_rfl) (by kernel_rfl) (by kernel_rfl) (by rfl) ?_ (by assumption) (fun _ _ _ h => h) ?_
        rotate_left
        · intro w hSw
          go_simp
          with_reducible rfl
        try simp only [Act.put, List.setIfInBounds_toArray, List.set_cons_zero, List.set_cons_succ]
        refine wpAnyH_ready (rs := [23]) (by kernel_rfl) (by simp) ?_
        refine AllReadyH.cons rfl (fun K hK => ?_) AllReadyH.nil
        go_simp
        refine hK.out _ _ ?_ (fun hHeld => ?_)
        · first | exact ⟨e1d, e2d⟩ | exact ⟨e1, e2⟩ | exact ⟨e1a, e2a⟩ | exact ⟨e14, e24⟩ | exact ⟨e15, e25⟩
        clear hK K
        refine wpAnyH_done (by kernel_rfl) ?_ _
        clear hHeld
        go_wp2
        go_roundw
        case measure => simp [intOf]; omega
        case rel => exact ⟨k + 1, _, by go_num, by omega, HF4.out, hd_set HH4.out _, HROW4.out.keep fun b hb => Below.heap_setCell _ _ _ _ (fun e => HNE4.out (by rw [hb]; exact congrArg some e)), HNE4.out, HG5.out, HBW4.out.setCell (p := ⟨r, 5, none⟩) (Nat.le_of_lt HRR.out) _⟩
      · go_simp
        go_wp2_with (first | (go_at_call 30; refine (HFR.out _).mono ?_; rintro e w9 ⟨rfl, hw⟩; subst w9))
        refine hK.out _ _ ?_ (fun hHeld => ?_)
        · first | exact ⟨e1d, e2d⟩ | exact ⟨e1, e2⟩ | exact ⟨e1a, e2a⟩ | exact ⟨e14, e24⟩ | exact ⟨e15, e25⟩
        clear hK K
        refine Hand.held_take (i := 18) (d := 82) (v := ?_) rfl rfl (by kernel_rfl) (by kernel_rfl) (by kernel_rfl) (by rfl) ?_ (by assumption) (fun _ _ _ h => h) ?_
        rotate_left
        · intro w hSw
          go_simp
          with_reducible rfl
        try simp only [Act.put, List.setIfInBounds_toArray, List.set_cons_zero, List.set_cons_succ]
        refine wpAnyH_ready (rs := [4, 19]) (by kernel_rfl) (by simp) ?_
        refine AllReadyH.cons rfl (fun K hK => ?_) (AllReadyH.cons rfl (fun K hK => ?_) AllReadyH.nil)
        · go_simp
          refine hK.out _ _ ?_ (fun hHeld => ?_)
          · first | exact ⟨e1d, e2d⟩ | exact ⟨e1, e2⟩ | exact ⟨e1a, e2a⟩ | exact ⟨e14, e24⟩ | exact ⟨e15, e25⟩
          clear hK K
          refine wpAnyH_ready (rs := [19]) (by kernel_rfl) (by simp) ?_
          refine AllReadyH.cons rfl (fun K hK => ?_) AllReadyH.nil
          go_simp
          refine hK.out _ _ ?_ (fun hHeld => ?_)
          · first | exact ⟨e1d, e2d⟩ | exact ⟨e1, e2⟩ | exact ⟨e1a, e2a⟩ | exact ⟨e14, e24⟩ | exact ⟨e15, e25⟩
          clear hK K
          refine wpAnyH_ready (rs := [20]) (by kernel_rfl) (by simp) ?_
          refine AllReadyH.cons rfl (fun K hK => ?_) AllReadyH.nil
          refine step_append_run (o := ⟨some 84, _, _, _, _, _⟩) (by rfl) (.tmp 68) (.tmp 83) 43 (by rfl) (.slice A k cc) (.slice (some ⟨w7.heap.size, 0, none⟩) 1 1) _ (by rfl) (by rfl) hrun ?_
          refine hK.out _ _ ?_ (fun hHeld => ?_)
          · first | exact ⟨e1d, e2d⟩ | exact ⟨e1, e2⟩ | exact ⟨e1a, e2a⟩ | exact ⟨e14, e24⟩ | exact ⟨e15, e25⟩
          clear hK K
          refine Hand.held_take (i := 21) (d := 85) (v := ?_) rfl rfl (by kernel_rfl) (by kernel_rfl) (by kernel_rfl) (by rfl) ?_ (by assumption) (fun _ _ _ h => h) ?_
          rotate_left
          · intro w hSw
            go_simp
            with_reducible rfl
          try simp only [Act.put, List.setIfInBounds_toArray, List.set_cons_zero, List.set_cons_succ]
          refine Hand.held_take (i := 22) (d := 86) (v := ?_) rfl rfl (by kernel_rfl) (by kernel_rfl) (by kernel_rfl) (by rfl) ?_ (by assumption) (fun _ _ _ h => h) ?_
          rotate_left
          · intro w hSw
            go_simp
            with_reducible rfl
          try simp only [Act.put, List.setIfInBounds_toArray, List.set_cons_zero, List.set_cons_succ]
          refine wpAnyH_ready (rs := [23]) (by kernel_rfl) (by simp) ?_
          refine AllReadyH.cons rfl (fun K hK => ?_) AllReadyH.nil
          go_simp
          refine hK.out _ _ ?_ (fun hHeld => ?_)
          · first | exact ⟨e1d, e2d⟩ | exact ⟨e1, e2⟩ | exact ⟨e1a, e2a⟩ | exact ⟨e14, e24⟩ | exact ⟨e15, e25⟩
          clear hK K
          refine wpAnyH_done (by kernel_rfl) ?_ _
          clear hHeld
          go_wp2
          go_roundw
          case measure => simp [intOf]; omega
          case rel => exact ⟨k + 1, _, by go_num, by omega, HF4.out, hd_set HH4.out _, HROW4.out.keep fun b hb => Below.heap_setCell _ _ _ _ (fun e => HNE4.out (by rw [hb]; exact congrArg some e)), HNE4.out, HG5.out, HBW4.out.setCell (p := ⟨r, 5, none⟩) (Nat.le_of_lt HRR.out) _⟩
        · go_simp
          refine hK.out _ _ ?_ (fun hHeld => ?_)
          · first | exact ⟨e1d, e2d⟩ | exact ⟨e1, e2⟩ | exact ⟨e1a, e2a⟩ | exact ⟨e14, e24⟩ | exact ⟨e15, e25⟩
          clear hK K
          refine wpAnyH_ready (rs := [4]) (by kernel_rfl) (by simp) ?_
          refine AllReadyH.cons rfl (fun K hK => ?_) AllReadyH.nil
          go_simp
          refine hK.out _ _ ?_ (fun hHeld => ?_)
          · first | exact ⟨e1d, e2d⟩ | exact ⟨e1, e2⟩ | exact ⟨e1a, e2a⟩ | exact ⟨e14, e24⟩ | exact ⟨e15, e25⟩
          clear hK K
          refine wpAnyH_ready (rs := [20]) (by kernel_rfl) (by simp) ?_
          refine AllReadyH.cons rfl (fun K hK => ?_) AllReadyH.nil
          refine step_append_run (o := ⟨some 84, _, _, _, _, _⟩) (by rfl) (.tmp 68) (.tmp 83) 43 (by rfl) (.slice A k cc) (.slice (some ⟨w7.heap.size, 0, none⟩) 1 1) _ (by rfl) (by rfl) hrun ?_
          refine hK.out _ _ ?_ (fun hHeld => ?_)
          · first | exact ⟨e1d, e2d⟩ | exact ⟨e1, e2⟩ | exact ⟨e1a, e2a⟩ | exact ⟨e14, e24⟩ | exact ⟨e15, e25⟩
          clear hK K
          refine Hand.held_take (i := 21) (d := 85) (v := ?_) rfl rfl (by kernel_rfl) (by kernel_rfl) (by kernel_rfl) (by rfl) ?_ (by assumption) (fun _ _ _ h => h) ?_
          rotate_left
          · intro w hSw
            go_simp
            with_reducible rfl
          try simp only [Act.put, List.setIfInBounds_toArray, List.set_cons_zero, List.set_cons_succ]
          refine Hand.held_take (i := 22) (d := 86) (v := ?_) rfl rfl (by kernel_rfl) (by kernel_rfl) (by kernel_rfl) (by rfl) ?_ (by assumption) (fun _ _ _ h => h) ?_
          rotate_left
          · intro w hSw
            go_simp
            with_reducible rfl
          try simp only [Act.put, List.setIfInBounds_toArray, List.set_cons_zero, List.set_cons_succ]
          refine wpAnyH_ready (rs := [23]) (by kernel_rfl) (by simp) ?_
          refine AllReadyH.cons rfl (fun K hK => ?_) AllReadyH.nil
          go_simp
          refine hK.out _ _ ?_ (fun hHeld => ?_)
          · first | exact ⟨e1d, e2d⟩ | exact ⟨e1, e2⟩ | exact ⟨e1a, e2a⟩ | exact ⟨e14, e24⟩ | exact ⟨e15, e25⟩
          clear hK K
          refine wpAnyH_done (by kernel_rfl) ?_ _
          clear hHeld
          go_wp2
          go_roundw
          case measure => simp [intOf]; omega
          case rel => exact ⟨k + 1, _, by go_num, by omega, HF4.out, hd_set HH4.out _, HROW4.out.keep fun b hb => Below.heap_setCell _ _ _ _ (fun e => HNE4.out (by rw [hb]; exact congrArg some e)), HNE4.out, HG5.out, HBW4.out.setCell (p := ⟨r, 5, none⟩) (Nat.le_of_lt HRR.out) _⟩
    · obtain rfl : k = n := by omega
      subst hv
      obtain ⟨A', c', hv', h3, h4, h5⟩ := HROW.out.form
      rw [rowsOf_len] at hv' h3
      obtain ⟨g, hg⟩ := h5 (by rw [rowsOf_len]; omega)
      injection hv' with q1 q2 q3
      subst q1
      subst hg
      have HGG := Lib.hid (HROW.out.block g rfl)
      have hne : r ≠ g := fun e => HNE.out (by rw [e]; rfl)
      have HFF := Lib.hid (HFI.out HF.out)
      have HRF : Hid (Rf G k wr ⟨r, g, cc⟩ (LinesPkg.start zs1 zs2)) := Lib.hid ⟨HH.out, tab_of HROW.out, hne, inv_new _ _ k G.U (fun i hi => ?_) (fun i hi => ?_), hn0, HNK.out, HG.out, by rw [q3]; exact h3, by rw [q3]; exact h4⟩
      rotate_left
      · have hl := HR1.out.1
        have h1 : zs1[i]? = some zs1[i] := List.getElem?_eq_getElem (by omega)
        rw [h1]
        exact HFF.out.1.2 _ (List.mem_of_getElem? h1)
      · have hl := HR2.out.1
        have h1 : zs2[i]? = some zs2[i] := List.getElem?_eq_getElem (by omega)
        rw [h1]
        exact HFF.out.2.2 _ (List.mem_of_getElem? h1)
      have hlt' : ¬ (k : Int) < G.k := by rw [← HNK.out]; omega
      clear h3 h4 h5 q2 q3 hne
      go_wp2
      go_ret2
      exact .inl ⟨⟨r, g, cc⟩, rfl, HFF.out, HRF.out, fun b hb => hb.elim (fun e => by rw [e]; exact Nat.le_of_lt HRR.out) (fun e => by have e : b = g := e; rw [e]; have := HGG.out; omega), HW.out⟩
end Go.Proofs.Ytnnonkmkdjhacaa.LinesRef
