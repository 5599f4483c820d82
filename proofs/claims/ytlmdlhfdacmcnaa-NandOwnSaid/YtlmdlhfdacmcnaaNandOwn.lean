/-
  NandOwn holds: what is done with bytes that were handed in, or read, changes nothing; for every number. No condition.
-/
import Derived.Test.YtlmdlhfdacmcnaaNandKit
import Derived.Test.YtlmdlhfdacmcnaaLawKit
import Derived.Test.YtlmdlhfdacmcnaaStructs
import Derived.OpenShut
import Derived.Test.YtlmdlhfdacmcnaaMade
import Derived.Deep.CutBlock
import Derived.Deep.DeepCutAuto
import Derived.Test.YtlmdlhfdacmcnaaVals
namespace Go.Proofs.Ytlmdlhfdacmcnaa.nandOwn
open Go.RowKit Go.ChangeShapes Go.WideShapes Nand NandPkg
set_option maxRecDepth 4000

/-- A block of bytes: its first four cells hold some. -/
def Byt (w : World) (b : Nat) : Prop := (∃ cur, w.heap[b]? = some (.cells cur 5 (0, 0))) ∧ ∀ j, j < 4 → ∃ x : UInt8, w.cell? ⟨b, j, none⟩ = some (.int .u8 (x.toNat : Int))

section
variable {w w' : World} {D : Nat → Prop} {b : Nat}

theorem Byt.keep (h : Byt w b) (hk : w'.heap[b]? = w.heap[b]?) : Byt w' b := by
  obtain ⟨⟨cur, h1⟩, h2⟩ := h
  exact ⟨⟨cur, hk.trans h1⟩, fun j hj => by
    obtain ⟨x, hx⟩ := h2 j hj
    exact ⟨x, (World.cell?_of_block (w := w) (a := ⟨b, j, none⟩) hk).trans hx⟩⟩

theorem Byt.free (h : Byt w b) (j : Nat) : w.frozen? ⟨b, j, none⟩ = false := by
  obtain ⟨⟨cur, h1⟩, _⟩ := h
  simp [World.frozen?, h1]

theorem Byt.lt (h : Byt w b) : b < w.heap.size := by
  obtain ⟨⟨cur, h1⟩, _⟩ := h
  exact (Array.getElem?_eq_some_iff.1 h1).1

theorem Byt.set (h : Byt w b) (b' k : Nat) (y : UInt8) : Byt (w.setCell ⟨b', k, none⟩ (.int .u8 (y.toNat : Int))) b := by
  by_cases e : b = b'
  · subst e
    obtain ⟨⟨cur, h1⟩, h2⟩ := h
    have h3 : (w.setCell ⟨b, k, none⟩ (.int .u8 (y.toNat : Int))).heap[b]? = some (.cells (cur.setIfInBounds k (.int .u8 (y.toNat : Int))) 5 (0, 0)) := by simp [World.setCell, Array.getElem?_modify, h1]
    refine ⟨⟨_, h3⟩, fun j hj => ?_⟩
    obtain ⟨x, hx⟩ := h2 j hj
    have hx2 : cur[j]? = some (.int .u8 (x.toNat : Int)) := by simpa [World.cell?, h1] using hx
    by_cases ej : k = j
    · subst ej
      obtain ⟨hl, _⟩ := Array.getElem?_eq_some_iff.1 hx2
      exact ⟨y, by simp [World.cell?, h3, hl]⟩
    · exact ⟨x, by simp [World.cell?, h3, ej, hx2]⟩
  · exact h.keep (Below.heap_setCell _ _ _ _ (fun h => e (by simpa using h)))

theorem Byt.of_own {base : Nat} {g n cap : Nat} {xs : List UInt8} (h : Own w base 5 (.slice (some ⟨g, 0, none⟩) n cap) xs) (hl : 4 ≤ xs.length) : Byt w g :=
  ⟨Own.elem h g rfl, fun j hj => ⟨_, (h.cell (i := j) (by omega)).1⟩⟩

/-- Two slices of bytes, in blocks of D. -/
def Out (w : World) (D : Nat → Prop) (A : Option Addr) : Prop := ∃ bo, A = some ⟨bo, 0, none⟩ ∧ D bo ∧ (∃ cur, w.heap[bo]? = some (.cells cur 47 (0, 0))) ∧
  ∀ j, j < 2 → ∃ bi ni ci, w.cell? ⟨bo, j, none⟩ = some (.slice (some ⟨bi, 0, none⟩) ni ci) ∧ 4 ≤ ni ∧ ni ≤ ci ∧ ci ≤ maxLen ∧ D bi ∧ Byt w bi

theorem Out.keep {A : Option Addr} (h : Out w D A) (hk : ∀ b, D b → w'.heap[b]? = w.heap[b]?) : Out w' D A := by
  obtain ⟨bo, e, hd, ⟨cur, h1⟩, h2⟩ := h
  refine ⟨bo, e, hd, ⟨cur, (hk bo hd).trans h1⟩, fun j hj => ?_⟩
  obtain ⟨bi, ni, ci, h3, h4, h5, h6, h7, h8⟩ := h2 j hj
  exact ⟨bi, ni, ci, (World.cell?_of_block (w := w) (a := ⟨bo, j, none⟩) (hk bo hd)).trans h3, h4, h5, h6, h7, h8.keep (hk bi h7)⟩

theorem Out.set {A : Option Addr} (h : Out w D A) {b' : Nat} (hb : Byt w b') (k : Nat) (y : UInt8) : Out (w.setCell ⟨b', k, none⟩ (.int .u8 (y.toNat : Int))) D A := by
  obtain ⟨bo, e, hd, ⟨cur, h1⟩, h2⟩ := h
  obtain ⟨⟨cur', g1⟩, _⟩ := hb
  have hne : bo ≠ b' := elem_ne (by decide) h1 g1
  have hk : (w.setCell ⟨b', k, none⟩ (.int .u8 (y.toNat : Int))).heap[bo]? = w.heap[bo]? := Below.heap_setCell _ _ _ _ (fun h => hne (by simpa using h))
  refine ⟨bo, e, hd, ⟨cur, hk.trans h1⟩, fun j hj => ?_⟩
  obtain ⟨bi, ni, ci, h3, h4, h5, h6, h7, h8⟩ := h2 j hj
  exact ⟨bi, ni, ci, (World.cell?_of_block (w := w) (a := ⟨bo, j, none⟩) hk).trans h3, h4, h5, h6, h7, h8.set b' k y⟩

theorem Out.of_sect {base : Nat} {A : Option Addr} {n c : Nat} {ls : List (List UInt8)} (h : Sect w base (.slice A n c) ls) (hl : ls.length = 2) (h4 : ∀ x ∈ ls, 4 ≤ x.length) : Out w (fun b => base ≤ b ∧ b < w.heap.size) A := by
  obtain ⟨vs, h1, h2, h3⟩ := h
  obtain ⟨A', c', hv, hc1, hc2, h5⟩ := h1.reads
  injection hv with e1 e2 e3
  subst e1 e3
  obtain ⟨bo, e, hb1, hb2, _⟩ := h5 0 vs[0] (List.getElem?_eq_getElem (by omega))
  subst e
  refine ⟨bo, rfl, ⟨hb1, hb2⟩, OwnV.elem h1 bo rfl, fun j hj => ?_⟩
  obtain ⟨bo', e, _, _, hc⟩ := h5 j vs[j] (List.getElem?_eq_getElem (by omega))
  injection e with e
  injection e with e
  subst e
  have ho := h3 j vs[j] ls[j] (List.getElem?_eq_getElem (by omega)) (List.getElem?_eq_getElem (by omega))
  have h4j := h4 ls[j] (List.getElem_mem _)
  obtain ⟨g, cap, hg, hb, hc1', hc2'⟩ := ho.form (by omega)
  rw [hg] at hc ho
  exact ⟨g, _, cap, hc, h4j, hc1', hc2', ⟨hb, ho.lt g rfl⟩, Byt.of_own ho h4j⟩
end

theorem Byt.drew {w : World} {b : Nat} (h : Byt w b) : Byt w.drew b := h
theorem flip (x : UInt8) : bits .xor .u8 (x.toNat : Int) 255 = ((x ^^^ 255).toNat : Int) := xor_lb x 255

def g2 : Shape := ⟨1, 1, 1, 1, 2, 1, 2, 2, 2⟩
theorem g2_ok : g2.Ok := Geom.sizes (c := 1) (l := 1) (k := 1) (p := 1) (s := 2) (by decide)

/-- The page programmed. -/
theorem own_page (n : Int) : ∃ st2, (fresh (rtOf [] ([] : List Int).length)).program g2 0 0 0 (dats n 2) (oobs n false 2) = (0, st2) ∧ ∀ k : Nat, k < 2 → st2.reads g2 k = (secD n k, secO n false k, 0) := by
  have hmay : (fresh (rtOf [] ([] : List Int).length)).may g2 0 0 0 (dats n 2) (oobs n false 2) = 0 := may_good ⟨by decide, by decide, by decide, fit_dats g2_ok n, fit_oobs g2_ok n⟩ rfl rfl
  refine ⟨_, program_good (G := g2) (st := fresh (rtOf [] ([] : List Int).length)) rfl hmay rfl, fun k hk => ?_⟩
  have h := lay_at g2_ok (u := 0) (b := 0) (g := 0) (by decide) (by decide) (dat := dats n 2) (oob := oobs n false 2) (rd := (fresh (rtOf [] ([] : List Int).length)).rd) (m := 2) (t := k) (by decide) hk
  rw [dats_at n hk, oobs_at n false hk, show adr g2 0 0 0 (k : Int) = (k : Int) by unfold adr g2; simp] at h
  unfold St.reads
  rw [if_neg (by simp [fresh]), if_neg (fun h => h ⟨by omega, by show (k : Int) < 2; omega⟩)]
  have h' : ({ fresh (rtOf [] ([] : List Int).length) with nx := upd (fresh (rtOf [] ([] : List Int).length)).nx (blk g2 0 0) (0 + 1), plan := (fresh (rtOf [] ([] : List Int).length)).plan.tail, many := (fresh (rtOf [] ([] : List Int).length)).many + 1, rd := lay g2 0 0 0 (dats n 2) (oobs n false 2) (fresh (rtOf [] ([] : List Int).length)).rd g2.s.toNat } : St).rd (k : Int) = some (secD n k, secO n false k) := h
  rw [h']

theorem store_turn (D : Nat → Prop) (w : World) (b k : Nat) (v : Value) (h : D b) : Turn D D w (w.setCell ⟨b, k, none⟩ v).drew :=
  (Turn.of_grown (grown_setCell w ⟨b, k, none⟩ v) h).trans (Turn.of_below D (Below.refl _ _).drew)

set_option maxHeartbeats 4000000 in
theorem walk (n : Int) (w : World) (_h0 : -9223372036854775808 ≤ n) (_h1 : n ≤ 9223372036854775807) : Calls Try.prog 10 #[.int .i64 n] w fun e w' => e = .returned (.bool true) ∧ Below w.heap.size w w' := by
  go_enter Try.func10, Try.ntmps10
  go_wp2_with fail
  refine (awake_any _).mono ?_
  rintro e w1 ⟨rfl, hb⟩
  have HGE := Lib.hid (geo_new w1 23 1 1 1 1 2)
  have hsz : (w1.alloc (.cells #[.int .i64 1, .int .i64 1, .int .i64 1, .int .i64 1, .int .i64 2] 23)).heap.size = w1.heap.size + 1 := by simp
  have HB := Lib.hid (below_then hb ((Below.refl w1.heap.size w1).alloc (Nat.le_refl _) (.cells #[.int .i64 1, .int .i64 1, .int .i64 1, .int .i64 1, .int .i64 2] 23)))
  have HN := Lib.hid (New_any (w := w1.alloc (.cells #[.int .i64 1, .int .i64 1, .int .i64 1, .int .i64 1, .int .i64 2] 23)) g2_ok none 0 0 0 [] (by omega) ⟨rfl, fun i hi => absurd hi (by simp)⟩ (Nat.zero_le _))
  clear hb
  obtain ⟨k0, k1, k2, k3, k4⟩ := HGE.out
  go_wp2_with fail
  refine HN.out.mono ?_
  rintro e w3 ⟨hor, hb⟩
  rcases hor with ⟨_, P, rfl, hd, ho⟩ | ⟨hno, _⟩
  rotate_left
  · exact absurd (fun z hz => by simp at hz) hno
  rw [hsz] at ho
  clear k0 k1 k2 k3 k4 hsz HN
  replace HGE := Lib.hid (geo_keep HGE.out hb)
  have HB1 := Lib.hid (below_then HB.out hb)
  have HD := Lib.hid hd
  have HO := Lib.hid ho
  have HOB : Hid (∀ b, P.own b → w.heap.size ≤ b) := Lib.hid (fun b h => by have := HB.out.size; have := ho b h; simp at *; omega)
  clear hd ho hb HB
  have HB := HB1
  clear HB1
  obtain ⟨k0, k1, k2, k3, k4⟩ := HGE.out
  go_wp2_with fail
  refine (Sectors_any 1 1 1 1 2 n false w3).mono ?_
  rintro e w4 ⟨v1, v2, rfl, hs1, hs2, hb⟩
  clear k0 k1 k2 k3 k4
  obtain ⟨A1, c1, A2, c2, rfl, rfl, hc1, hcame⟩ := came_sect hs1 hs2
  rw [show few 2 = 2 from rfl] at hs1 hs2 hc1 hcame
  have HO1 := Lib.hid (Out.of_sect hs1 (dats_len _ _) (fun x hx => by obtain ⟨i, _, rfl⟩ := List.mem_map.1 hx; rw [secD_len]; omega))
  have HO2 := Lib.hid (Out.of_sect hs2 (oobs_len _ _ _) (fun x hx => by obtain ⟨i, _, rfl⟩ := List.mem_map.1 hx; rw [secO_len]; omega))
  obtain ⟨D, hD⟩ : ∃ D : Nat → Prop, D = fun b => w3.heap.size ≤ b ∧ b < w4.heap.size := ⟨_, rfl⟩
  rw [← hD] at hcame HO1 HO2
  have HDL : Hid (∀ b, D b → w3.heap.size ≤ b ∧ b < w4.heap.size) := Lib.hid (fun b h => by rw [hD] at h; exact h)
  have HDN : Hid (∀ b, D b → ¬ P.own b) := Lib.hid (fun b hb2 ho => by have := HD.out.lt b ho; have := HDL.out b hb2; omega)
  have HPL := Lib.hid HD.out.lt
  replace HGE := Lib.hid (geo_keep HGE.out hb)
  replace HD := Lib.hid (HD.out.below hb)
  have HCA := Lib.hid hcame
  have HW3 : Hid (w.heap.size ≤ w3.heap.size) := Lib.hid HB.out.size
  replace HB := Lib.hid (below_then HB.out hb)
  clear hs1 hs2 hD hcame hb
  obtain ⟨k0, k1, k2, k3, k4⟩ := HGE.out
  rw [show few 2 = 2 from rfl]
  go_wp2_with fail
  refine (Sectors_any 1 1 1 1 2 n false w4).mono ?_
  rintro e w5 ⟨v3, v4, rfl, hs3, hs4, hb⟩
  clear k0 k1 k2 k3 k4 HGE
  obtain ⟨A3, c3, A4, c4, rfl, rfl, hc3, hcame⟩ := came_sect hs3 hs4
  rw [show few 2 = 2 from rfl] at hs3 hs4 hc3 hcame
  have hc34 : c3 ≤ 9223372036854775807 ∧ 2 ≤ c4 ∧ c4 ≤ 9223372036854775807 := by
    obtain ⟨vs, h1, h2, _⟩ := hs3
    obtain ⟨vs', h1', h2', _⟩ := hs4
    obtain ⟨_, _, e, _, h3, _⟩ := h1.reads
    obtain ⟨_, _, e', h4', h3', _⟩ := h1'.reads
    injection e with _ _ e
    injection e' with _ _ e'
    rw [h2', oobs_len] at h4'
    subst e e'
    exact ⟨h3, h4', h3'⟩
  obtain ⟨D3, hD⟩ : ∃ D : Nat → Prop, D = fun b => w4.heap.size ≤ b ∧ b < w5.heap.size := ⟨_, rfl⟩
  rw [← hD] at hcame
  have HD3 : Hid (∀ b, D3 b → ¬ D b) := Lib.hid (fun b h h2 => by rw [hD] at h; have := HDL.out b h2; omega)
  have HD3N : Hid (∀ b, D3 b → ¬ P.own b) := Lib.hid (fun b h h2 => by rw [hD] at h; have := HPL.out b h2; have := HCA.out; have := HD.out.lt b h2; omega)
  have HWA := Lib.hid hcame
  replace HCA := Lib.hid (HCA.out.below hb)
  have HDB : Hid (∀ b, D b → w5.heap[b]? = w4.heap[b]?) := Lib.hid (fun b h => hb.block b (HDL.out b h).2)
  replace HO1 := Lib.hid (HO1.out.keep HDB.out)
  replace HO2 := Lib.hid (HO2.out.keep HDB.out)
  replace HD := Lib.hid (HD.out.below hb)
  replace HB := Lib.hid (below_then HB.out hb)
  clear hs3 hs4 hD hcame hb HDB
  rw [show few 2 = 2 from rfl]
  obtain ⟨st2, hPR, hRD⟩ := own_page n
  have HRD := Lib.hid hRD
  have hP := Program_any g2_ok HD.out 0 0 0 A1 A2 2 2 c1 c2 (dats n 2) (oobs n false 2) HCA.out HDN.out hc1 (by show (0 : Int) ≤ 0; omega) (by show (0 : Int) < _; omega)
  rw [hPR] at hP
  have HP := Lib.hid hP
  clear hPR hRD hP
  obtain ⟨gd, hgd⟩ : ∃ gd, gd = P.g := ⟨_, rfl⟩
  rw [← hgd] at HP ⊢
  have HGD := Lib.hid hgd
  clear hgd
  go_wp2_with fail
  refine HP.out.mono ?_
  rintro e w6 ⟨rfl, P2, hg2, hd, ht⟩
  obtain rfl : P2.g = gd := by rw [hg2, HGD.out]
  clear hg2 HP HGD
  have hDk : ∀ b, D b → w6.heap[b]? = w5.heap[b]? := fun b h => ht.block b (HCA.out.lt b h) (HDN.out b h)
  replace HO1 := Lib.hid (HO1.out.keep hDk)
  replace HO2 := Lib.hid (HO2.out.keep hDk)
  have HDN2 := Lib.hid (ht.apart (fun b hb => HCA.out.lt b hb) HDN.out)
  replace HWA := Lib.hid (HWA.out.turn ht HD3N.out)
  replace HB := Lib.hid (HB.out.trans (ht.below (fun b hb => HOB.out b hb) HB.out.size))
  replace HD := Lib.hid hd
  clear hd ht hDk HDN HD3N HOB HCA HPL HO
  have HDW : Hid (∀ b, D b → w.heap.size ≤ b) := Lib.hid (fun b h => Nat.le_trans HW3.out (HDL.out b h).1)
  have HDN3 : Hid (∀ b, P2.own b → ¬ D b) := Lib.hid (fun b h h2 => HDN2.out b h2 h)
  clear HDL HW3 HDN2
  go_wp2
  go_loopw [12] (fun i wr => ∃ j : Nat, j ≤ 2 ∧ i = .int .i64 j ∧ Dev g2 wr P2 st2 ∧ Came wr D3 A3 2 A4 2 (dats n 2) (oobs n false 2) ∧ Out wr D A1 ∧ Out wr D A2 ∧ Below w.heap.size w wr) (fun i _ => 2 - (intOf i).toNat)
  case atStart => exact ⟨0, by omega, rfl, HD.out, HWA.out, HO1.out, HO2.out, HB.out⟩
  case round =>
    rename World => wy
    obtain ⟨j, hj, rfl, hd, hca, ho1, ho2, hb⟩ := hrel
    replace HD := Lib.hid hd
    replace HWA := Lib.hid hca
    replace HB := Lib.hid hb
    clear hd hca hb HO1 HO2
    by_cases hlt : j < 2
    · obtain ⟨bo, rfl, hbo, hbu, hin⟩ := ho1
      obtain ⟨b1, n1, d1, q1, q2, q3, q4, q5, q6⟩ := hin j hlt
      have HX1 : Hid (Out wy D (some ⟨bo, 0, none⟩)) := Lib.hid ⟨bo, rfl, hbo, hbu, hin⟩
      have HX2 := Lib.hid ho2
      have HQ6 := Lib.hid q6
      have HQ5 := Lib.hid q5
      obtain ⟨x, hx⟩ := q6.2 3 (by omega)
      have hf := q6.free 3
      obtain ⟨y, hfl⟩ : ∃ y : UInt8, bits .xor .u8 (x.toNat : Int) 255 = (y.toNat : Int) := ⟨_, flip x⟩
      clear hbo hbu hin ho2 q6 q5
      have hji : (j : Int) < 2 := by omega
      go_wp2
      go_region
      generalize hX : (wy.setCell ⟨b1, 3, none⟩ (.int .u8 (y.toNat : Int))).drew = X
      have ht := store_turn D wy b1 3 (.int .u8 (y.toNat : Int)) HQ5.out
      replace HX1 : Hid (Out X D (some ⟨bo, 0, none⟩)) := by rw [← hX]; exact Lib.hid (HX1.out.set HQ6.out 3 _)
      replace HX2 : Hid (Out X D A2) := by rw [← hX]; exact Lib.hid (HX2.out.set HQ6.out 3 _)
      rw [hX] at ht
      replace HD := Lib.hid (HD.out.turn ht HDN3.out)
      replace HWA := Lib.hid (HWA.out.turn ht HD3.out)
      replace HB := Lib.hid (HB.out.trans (ht.below HDW.out HB.out.size))
      clear hX ht hx hf hfl q1 HQ6 HQ5
      obtain ⟨bo2, hA2, hbo, hbu, hin⟩ := HX2.out
      have HA2 := Lib.hid hA2
      rw [hA2]
      obtain ⟨b2, n2, d2, r1, r2, r3, r4, q5, q6⟩ := hin j hlt
      have HQ6 := Lib.hid q6
      have HQ5 := Lib.hid q5
      obtain ⟨x, hx⟩ := q6.2 3 (by omega)
      have hf := q6.free 3
      obtain ⟨y, hfl⟩ : ∃ y : UInt8, bits .xor .u8 (x.toNat : Int) 255 = (y.toNat : Int) := ⟨_, flip x⟩
      clear hbo hbu hin q6 q5 hA2
      go_wp2
      go_region
      generalize hY : (X.setCell ⟨b2, 3, none⟩ (.int .u8 (y.toNat : Int))).drew = Y
      have ht := store_turn D X b2 3 (.int .u8 (y.toNat : Int)) HQ5.out
      replace HX1 : Hid (Out Y D (some ⟨bo, 0, none⟩)) := by rw [← hY]; exact Lib.hid (HX1.out.set HQ6.out 3 _)
      replace HX2 : Hid (Out Y D A2) := by rw [← hY]; exact Lib.hid (HX2.out.set HQ6.out 3 _)
      rw [hY] at ht
      replace HD := Lib.hid (HD.out.turn ht HDN3.out)
      replace HWA := Lib.hid (HWA.out.turn ht HD3.out)
      replace HB := Lib.hid (HB.out.trans (ht.below HDW.out HB.out.size))
      clear hY ht hx hf hfl r1 HQ6 HQ5
      rw [← HA2.out]
      go_wp2
      go_roundw
      case rel => exact ⟨j + 1, by omega, by go_num, HD.out, HWA.out, HX1.out, HX2.out, HB.out⟩
      case measure => simp [intOf]; omega
    · obtain rfl : j = 2 := by omega
      clear ho1 ho2
      go_wp2
      go_loopw [13, 14, 15, 16] (fun i _ _ _ wr => ∃ k : Nat, k ≤ 2 ∧ i = .int .i64 k ∧ Below wy.heap.size wy wr) (fun i _ _ _ _ => 2 - (intOf i).toNat)
      case atStart => exact ⟨0, by omega, rfl, Below.refl _ _⟩
      case round =>
        obtain ⟨k, hk, rfl, hbw⟩ := hrel
        have HBW := Lib.hid hbw
        clear hbw
        by_cases hlt2 : k < 2
        · have hR := Read_any g2_ok (HD.out.below HBW.out) k
          rw [HRD.out k hlt2] at hR
          have HR := Lib.hid hR
          clear hR
          have hki : (k : Int) < 2 := by omega
          go_wp2_with fail
          refine HR.out.mono ?_
          rintro e w8 ⟨v5, v6, rfl, ho5, ho6, hb⟩
          obtain ⟨f5, d5, hv5, _, q5, q6⟩ := ho5.form (by rw [secD_len]; omega)
          obtain ⟨f6, d6, hv6, _, q7, q8⟩ := ho6.form (by rw [secO_len]; omega)
          rw [hv5] at ho5
          rw [hv6] at ho6
          subst hv5 hv6
          have HY5 := Lib.hid (Byt.of_own ho5 (by rw [secD_len]; omega))
          have HY6 := Lib.hid (Byt.of_own ho6 (by rw [secO_len]; omega))
          have HF : Hid (wr.heap.size ≤ f5 ∧ wr.heap.size ≤ f6) := Lib.hid ⟨ho5.block f5 rfl, ho6.block f6 rfl⟩
          obtain ⟨_, _, e5, hr5⟩ := ho5.reads
          obtain ⟨_, _, e6, hr6⟩ := ho6.reads
          injection e5 with e51 e52 e53
          injection e6 with e61 e62 e63
          subst e51 e61 e53 e63
          rw [secD_len] at hr5 q5 ⊢
          rw [secO_len] at hr6 q7 ⊢
          have HCM := HWA.out.below (HBW.out.trans (hb.mono HBW.out.size))
          obtain ⟨b1, o1, B1, n1, e1, xs, rfl, _, hc1', hn1, hl1, hx1⟩ := HCM.dat.at_ hlt2
          obtain ⟨b2, o2, B2, n2, e2, ys, rfl, _, hc2', hn2, hl2, hx2⟩ := HCM.oob.at_ hlt2
          have e5 : secD n k = xs := by have h := dats_at n hlt2; rw [List.getD_eq_getElem?_getD, hx1] at h; exact h.symm
          have e6 : secO n false k = ys := by have h := oobs_at n false hlt2; rw [List.getD_eq_getElem?_getD, hx2] at h; exact h.symm
          rw [e5] at hr5
          rw [e6] at hr6
          have hs1 := run_strs (P := Try.prog) w8 47 9 5 Try.underlying47 Try.underlying5 Try.underlying9 (c := d5) hr5
          have hs2 := run_strs (P := Try.prog) w8 47 9 5 Try.underlying47 Try.underlying5 Try.underlying9 (c := d6) hr6
          have hs3 := run_strs (P := Try.prog) w8 47 9 5 Try.underlying47 Try.underlying5 Try.underlying9 (c := e1) (hl1.bytes (B := w8.heap.size) (fun b hb => HCM.lt b hb))
          have hs4 := run_strs (P := Try.prog) w8 47 9 5 Try.underlying47 Try.underlying5 Try.underlying9 (c := e2) (hl2.bytes (B := w8.heap.size) (fun b hb => HCM.lt b hb))
          have hq1 := str_eq (rfl : xs = xs)
          have hq2 := str_eq (rfl : ys = ys)
          have HB8 := Lib.hid hb
          have HX := Lib.hid (And.intro e5 e6)
          have hc3' : c3 ≤ 9223372036854775807 := hc34.1
          clear ho5 ho6 hr5 hr6 hb hl1 hl2 hx1 hx2 e5 e6 HCM HR hc34
          go_wp2
          go_quiet (fail)
          generalize hX : w8.drewN nq = X
          replace HY5 : Hid (Byt X f5) := by rw [← hX]; exact HY5
          replace HY6 : Hid (Byt X f6) := by rw [← hX]; exact HY6
          have HBX : Hid (Below wr.heap.size wr X) := by rw [← hX]; exact Lib.hid (below_draws HB8.out nq)
          clear hX hs1 hs2 hs3 hs4 hq1 hq2 HB8
          obtain ⟨x, hx⟩ := HY5.out.2 0 (by omega)
          have hf := HY5.out.free 0
          obtain ⟨y, hfl⟩ : ∃ y : UInt8, bits .xor .u8 (x.toNat : Int) 255 = (y.toNat : Int) := ⟨_, flip x⟩
          have h5 : 16 ≤ d5 := q5
          have h55 : d5 ≤ 9223372036854775807 := q6
          have h6 : 17 ≤ d6 := q7
          have h66 : d6 ≤ 9223372036854775807 := q8
          clear q5 q6 q7 q8
          go_upto_region 21 with fail
          have HBY := Lib.hid (HBX.out.setCell (p := ⟨f5, 0, none⟩) HF.out.1 (.int .u8 (y.toNat : Int)))
          have HY7 := Lib.hid (HY6.out.set f5 0 y)
          generalize hY : X.setCell ⟨f5, 0, none⟩ (.int .u8 (y.toNat : Int)) = Y
          replace HBY : Hid (Below wr.heap.size wr Y) := by rw [← hY]; exact HBY
          replace HY7 : Hid (Byt Y f6) := by rw [← hY]; exact HY7
          clear hY hx hf hfl HBX HY5 HY6
          obtain ⟨z, hz⟩ := HY7.out.2 0 (by omega)
          have hf := HY7.out.free 0
          obtain ⟨y2, hfl⟩ : ∃ y : UInt8, bits .xor .u8 (z.toNat : Int) 255 = (y.toNat : Int) := ⟨_, flip z⟩
          go_upto_region 22 with fail
          have HBZ := Lib.hid (HBY.out.setCell (p := ⟨f6, 0, none⟩) HF.out.2 (.int .u8 (y2.toNat : Int)))
          generalize hZ : Y.setCell ⟨f6, 0, none⟩ (.int .u8 (y2.toNat : Int)) = Z
          replace HBZ : Hid (Below wr.heap.size wr Z) := by rw [← hZ]; exact HBZ
          clear hZ hz hf hfl HBY HY7
          replace HBW := Lib.hid (HBW.out.trans (HBZ.out.mono HBW.out.size))
          have hR := Read_any g2_ok (HD.out.below HBW.out) k
          rw [HRD.out k hlt2] at hR
          have HR := Lib.hid hR
          clear hR
          go_wp2_with fail
          refine HR.out.mono ?_
          rintro e w9 ⟨v5, v6, rfl, ho5, ho6, hb⟩
          obtain ⟨A5, d55, rfl, hr5⟩ := ho5.reads
          obtain ⟨A6, d66, rfl, hr6⟩ := ho6.reads
          simp only at hr5 hr6 ⊢
          rw [HX.out.1] at hr5 ⊢
          rw [HX.out.2] at hr6 ⊢
          have HCM := HWA.out.below (HBW.out.trans (hb.mono HBW.out.size))
          obtain ⟨g1, p1, B3, n3, e3, xs', eA, _, hc1', hn1, hl1, hx1⟩ := HCM.dat.at_ hlt2
          obtain ⟨g2', p2, B4, n4, e4, ys', eB, _, hc2', hn2, hl2, hx2⟩ := HCM.oob.at_ hlt2
          injection eA with eA
          injection eA with eA1 eA2
          injection eB with eB
          injection eB with eB1 eB2
          subst eA1 eA2 eB1 eB2
          have e5 : xs' = xs := by have h := dats_at n hlt2; rw [List.getD_eq_getElem?_getD, hx1] at h; exact h.trans HX.out.1
          have e6 : ys' = ys := by have h := oobs_at n false hlt2; rw [List.getD_eq_getElem?_getD, hx2] at h; exact h.trans HX.out.2
          subst e5 e6
          have hs1 := run_strs (P := Try.prog) w9 47 9 5 Try.underlying47 Try.underlying5 Try.underlying9 (c := d55) hr5
          have hs2 := run_strs (P := Try.prog) w9 47 9 5 Try.underlying47 Try.underlying5 Try.underlying9 (c := d66) hr6
          have hs3 := run_strs (P := Try.prog) w9 47 9 5 Try.underlying47 Try.underlying5 Try.underlying9 (c := e3) (hl1.bytes (B := w9.heap.size) (fun b hb => HCM.lt b hb))
          have hs4 := run_strs (P := Try.prog) w9 47 9 5 Try.underlying47 Try.underlying5 Try.underlying9 (c := e4) (hl2.bytes (B := w9.heap.size) (fun b hb => HCM.lt b hb))
          have hq1 := str_eq (rfl : xs' = xs')
          have hq2 := str_eq (rfl : ys' = ys')
          replace HBW := Lib.hid (HBW.out.trans (hb.mono HBW.out.size))
          clear ho5 ho6 hr5 hr6 hb hl1 hl2 hx1 hx2 HCM HR
          go_wp2
          go_quiet (fail)
          go_wp2
          go_roundw
          case rel =>
            first
              | exact ⟨k + 1, by omega, by go_num, below_draws HBW.out _⟩
              | ((repeat apply Exists.intro); refine ⟨?_, rfl⟩; exact ⟨k + 1, by omega, by go_num, below_draws HBW.out _⟩)
          case measure => simp [intOf]; omega
        · obtain rfl : k = 2 := by omega
          go_wp2
          go_ret
          exact ⟨rfl, HB.out.trans (HBW.out.mono HB.out.size)⟩

theorem own : ownKnob Try.prog.godebug = none := by kernel_rfl
theorem laid : laidOutB Try.prog = true := by kernel_rfl

set_option maxRecDepth 100000 in
theorem lifted (os : Os) (started : os.Started) (H : Type) (enc : TypeId × Value → H) :
    ReturnsInHanded {} Try.checked os 10 .any (Rows.nandOwnSpec.pre6 enc Try.prog Try.f10 Rows.nandOwnRow.domain false) (Rows.nandOwnSpec.post enc Try.prog Try.f10 false true false false) := by
  refine returnsInHanded_of_change (C := Try.checked) own started (by kernel_rfl) Try.func10
    (ChangeSpec.witness6 (enc := enc) (C := Try.checked) false ⟨#[], #[.int .i64 0], []⟩ 8 (by kernel_rfl) (by kernel_rfl) (by kernel_rfl) (by kernel_rfl)) ?_
  intro W base args ds gs before hval0 hW _ _
  have hval : ∀ (j : Nat) t v, Try.f10.params[j]? = some t → args[j]? = some v → Value.okWide Try.prog W .any base t v := hval0
  have hW' := hW
  obtain ⟨p, q, hA0, hV, rfl, hfz, hnd⟩ := hW
  have hA : DataW.TrodAll enc Try.prog W 0 (fun _ => true) true Try.f10.params.toList args.toList ds p := hA0
  rw [Try.params10] at hA hval
  obtain ⟨v0, d0, rfl, rfl, h0⟩ := trodAll_one hA
  obtain ⟨a0, rfl, rfl, rfl, wf0⟩ := open_int Try.underlying3 (hval 0 3 v0 rfl rfl) h0
  have hb0 : -9223372036854775808 ≤ a0 ∧ a0 ≤ 9223372036854775807 := by simpa [Lit.wf, IntKind.min, IntKind.max, IntKind.signed, IntKind.bits] using wf0
  refine (walk a0 W hb0.1 hb0.2).mono fun e W' ⟨he, hb⟩ => ?_
  subst he
  exact ⟨_, rfl, Law.post laid (by kernel_rfl) (by kernel_rfl) Try.underlying4 rfl hW' rfl hb⟩

theorem proved : Rows.NandOwnSaid :=
  OpenClaim.holds_of_wide 10 Try.f10 rfl rfl rfl rfl rfl rfl rfl ⟨rfl, rfl, rfl, rfl, rfl⟩ rfl rfl rfl rfl rfl (by kernel_rfl) Try.func10 (by kernel_rfl)
    (of_decide_eq_true (by kernel_rfl)) (by unfold Func.isWrapper; first | (rw [if_pos (by decide +kernel)]; kernel_rfl) | (rw [if_neg (by decide +kernel)]; exact ⟨rfl, rfl⟩))
    (fun os started H enc _ => lifted os started H enc)

end Go.Proofs.Ytlmdlhfdacmcnaa.nandOwn
