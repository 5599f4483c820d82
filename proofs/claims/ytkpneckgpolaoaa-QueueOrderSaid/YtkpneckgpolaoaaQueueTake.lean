/-
  What package queue's First, drop and Pop do.
-/
import Derived.Test.YtkpneckgpolaoaaQueueWalks
import Derived.Deep.RegionWith
import Derived.Deep.RegionHeld3
namespace Go.Proofs.Ytkpneckgpolaoaa.QueuePkg
open Go.RowKit Queue
set_option maxRecDepth 4000

/-- First, where there is none. -/
theorem First_none {w : World} {P : Pl} {ch : Int} {rs : Nat → List Row} (h : Qs w P ch rs) (c : Int) (hc : ∀ k : Nat, c = (k : Int) → (k : Int) < ch → rs k = []) :
    Calls Try.prog 11 #[ptr P.g, .int .i64 c] w fun e w' => e = .returned (.tuple #[jobV zero (.slice none 0 0), .bool false]) ∧ Below w.heap.size w w' := by
  have hb := (Below.refl w.heap.size w).alloc (Nat.le_refl _) (.cells #[.int .i64 0, .int .i64 0, .int .i64 0, .int .i64 0, .slice none 0 0] 32)
  have HO : ∃ A k, Calls Try.prog 18 #[ptr P.g, .int .i64 c] (w.alloc (.cells #[.int .i64 0, .int .i64 0, .int .i64 0, .int .i64 0, .slice none 0 0] 32)) fun e w' => e = .returned (.slice A 0 k) ∧ w' = (w.alloc (.cells #[.int .i64 0, .int .i64 0, .int .i64 0, .int .i64 0, .slice none 0 0] 32)) := by
    by_cases hin : 0 ≤ c ∧ c < ch
    · obtain ⟨k, rfl⟩ : ∃ k : Nat, c = (k : Int) := ⟨c.toNat, by omega⟩
      obtain ⟨A, m, hv, _⟩ := h.slice (show k < 4 by have := h.top; omega)
      have := of_in (h.below hb) k hin.2
      rw [hv, hc k rfl hin.2] at this
      exact ⟨A, m, this⟩
    · exact ⟨none, 0, of_out (h.below hb) c hin⟩
  obtain ⟨A, k, hO⟩ := HO
  have HO := Lib.hid hO
  have H2 := Lib.hid (Five.new w 32 (.int .i64 0) (.int .i64 0) (.int .i64 0) (.int .i64 0) (.slice none 0 0))
  have HB := Lib.hid hb
  clear h hc hb hO
  go_enter Try.func11, Try.ntmps11
  go_wp2_with fail
  refine HO.out.mono ?_
  rintro e w2 ⟨rfl, rfl⟩
  clear HO
  obtain ⟨d0, d1, d2, d3, d4⟩ := H2.out.cells
  obtain ⟨f0, f1, f2, f3, f4⟩ := H2.out.free
  go_wp2
  clear f0 f1 f2 f3 f4
  refine bodyPost_ret (v := .tuple #[jobV zero (.slice none 0 0), .bool false]) ?_ rfl ⟨rfl, HB.out⟩
  simp [results, Try.results11, go_sem, zero]

/-- First, where there is one. -/
theorem First_some {w : World} {P : Pl} {ch : Int} {rs : Nat → List Row} (h : Qs w P ch rs) (c : Nat) (hc : (c : Int) < ch) (r : Row) (l : List Row) (hr : rs c = r :: l) :
    Calls Try.prog 11 #[ptr P.g, .int .i64 (c : Int)] w fun e w' => ∃ v, e = .returned (.tuple #[jobV r.j v, .bool true]) ∧ OwnI w' w.heap.size 3 v r.j.d ∧ Below w.heap.size w w' := by
  have hc4 : c < 4 := by have := h.top; omega
  have hb := (Below.refl w.heap.size w).alloc (Nat.le_refl _) (.cells #[.int .i64 0, .int .i64 0, .int .i64 0, .int .i64 0, .slice none 0 0] 32)
  have hr0 : (rs c)[0]? = some r := by rw [hr]; rfl
  have h1 := h.below hb
  obtain ⟨b, off, k, hv, hnk, hk, _, _, hcl⟩ := h1.at_ hc4 hr0
  have hO := of_in h1 c hc
  rw [hv] at hO
  have q0 := (hcl 0 _ rfl).1
  have q1 := (hcl 1 _ rfl).1
  have q2 := (hcl 2 _ rfl).1
  have q3 := (hcl 3 _ rfl).1
  have q4 := (hcl 4 _ rfl).1
  rw [Nat.zero_mul, Nat.add_zero] at q0 q1 q2 q3 q4
  obtain ⟨A, cd, hvd, _, _, hsm, hlie⟩ := h1.data c hc4 r (by rw [hr]; simp)
  have hlen : 0 < (rs c).length := by rw [hr]; simp
  obtain ⟨n, hn⟩ : ∃ n, (rs c).length = n := ⟨_, rfl⟩
  rw [hn] at hO hlen hnk
  have hlen2 : ((n : Int) == 0) = false := by simp; omega
  have hd := fun b hb => h1.d_lt b hb
  obtain ⟨⟨k0, l0, u0, p0, d⟩, v⟩ := r
  dsimp only at q0 q1 q2 q3 q4 hvd hsm hlie ⊢
  subst hvd
  have HC := Lib.hid (copied_any ⟨k0, l0, u0, p0, d⟩ A d.length cd _ _ hsm (hlie.nums hd) (Nat.le_refl _))
  have HO := Lib.hid hO
  have H2 := Lib.hid (Five.new w 32 (.int .i64 0) (.int .i64 0) (.int .i64 0) (.int .i64 0) (.slice none 0 0))
  have HB := Lib.hid hb
  unfold maxLen at hk
  clear h h1 hc hb hO hv hcl hlie hd hr hr0 hn
  go_enter Try.func11, Try.ntmps11
  go_wp2_with fail
  refine HO.out.mono ?_
  rintro e w2 ⟨rfl, rfl⟩
  clear HO
  go_wp2_with fail
  refine HC.out.mono ?_
  rintro e w3 ⟨v3, rfl, ho, hb⟩
  obtain ⟨A3, n3, c3, rfl⟩ := ho.form
  replace H2 := Lib.hid (H2.out.below hb)
  replace HB := Lib.hid (below_on HB.out hb HB.out.size)
  rw [World.size_alloc] at ho
  have HO := Lib.hid ho
  clear ho hb HC q0 q1 q2 q3 q4
  obtain ⟨d0, d1, d2, d3, d4⟩ := H2.out.cells
  obtain ⟨f0, f1, f2, f3, f4⟩ := H2.out.free
  go_wp2
  clear f0 f1 f2 f3 f4 d0 d1 d2 d3 d4
  have hP := H2.out.set (.int .i64 k0) (.int .i64 l0) (.int .i64 u0) (.int .i64 p0) (.slice A3 n3 c3)
  have HX := Lib.hid (below_set5 HB.out (Nat.le_refl _) (.int .i64 k0) (.int .i64 l0) (.int .i64 u0) (.int .i64 p0) (.slice A3 n3 c3))
  have HK : Hid (∀ b, w.heap.size + 1 ≤ b → (((((w3.setCell ⟨w.heap.size, 0, none⟩ (.int .i64 k0)).setCell ⟨w.heap.size, 1, none⟩ (.int .i64 l0)).setCell ⟨w.heap.size, 2, none⟩ (.int .i64 u0)).setCell ⟨w.heap.size, 3, none⟩ (.int .i64 p0)).setCell ⟨w.heap.size, 4, none⟩ (.slice A3 n3 c3)).heap[b]? = w3.heap[b]?) := Lib.hid (fun b hb => other_set5 (by omega) _ _ _ _ _)
  clear H2 HB
  generalize World.setCell _ _ _ = Y at hP HX HK ⊢
  obtain ⟨P0, P1, P2, P3, P4⟩ := hP.cells
  refine bodyPost_ret (v := .tuple #[jobV ⟨k0, l0, u0, p0, d⟩ (.slice A3 n3 c3), .bool true]) ?_ rfl ⟨_, rfl, ?_, HX.out⟩
  · simp [results, Try.results11, go_sem, P0, P1, P2, P3, P4]
  · have h := HO.out.keep fun b hb => HK.out b (HO.out.block b hb)
    exact ⟨h.1, h.2.imp id fun ⟨g, cap, cur, hv, hg, r⟩ => ⟨g, cap, cur, hv, by omega, r⟩⟩

theorem set_one {w : World} {b : Nat} {cur : Array Value} {t : TypeId} (h : w.heap[b]? = some (.cells cur t (0, 0))) (o : Nat) (y : Value) : (w.setCell ⟨b, o, none⟩ y).heap[b]? = some (.cells (cur.setIfInBounds o y) t (0, 0)) := by
  simp [World.setCell, Array.getElem?_modify, h]

/-- A row of five cells laid anew at some cell of a block. -/
theorem set_row5 {w : World} {b off : Nat} {cur : Array Value} {t : TypeId} (h : w.heap[b]? = some (.cells cur t (0, 0))) (y0 y1 y2 y3 y4 : Value) :
    ∃ cur', (((((w.setCell ⟨b, off, none⟩ y0).setCell ⟨b, off + 1, none⟩ y1).setCell ⟨b, off + 2, none⟩ y2).setCell ⟨b, off + 3, none⟩ y3).setCell ⟨b, off + 4, none⟩ y4).heap[b]? = some (.cells cur' t (0, 0)) ∧ cur'.size = cur.size ∧ ∀ i, off + 5 ≤ i → cur'[i]? = cur[i]? := by
  refine ⟨_, set_one (set_one (set_one (set_one (set_one h off y0) (off + 1) y1) (off + 2) y2) (off + 3) y3) (off + 4) y4, ?_, fun i hi => ?_⟩
  · rw [Array.size_setIfInBounds, Array.size_setIfInBounds, Array.size_setIfInBounds, Array.size_setIfInBounds, Array.size_setIfInBounds]
  · rw [Array.getElem?_setIfInBounds, if_neg (by omega), Array.getElem?_setIfInBounds, if_neg (by omega), Array.getElem?_setIfInBounds, if_neg (by omega), Array.getElem?_setIfInBounds, if_neg (by omega), Array.getElem?_setIfInBounds, if_neg (by omega)]

theorem grown_two {w w2 w3 : World} {r : Option Nat} (h : w.grownBy w2 r) (h2 : w2.grownBy w3 r) : w.grownBy w3 r :=
  ⟨h2.os.trans h.os, h2.tape.trans h.tape, h2.output.trans h.output, Nat.le_trans h.size h2.size, fun k hk hn => (h2.block k (Nat.lt_of_lt_of_le hk h.size) hn).trans (h.block k hk hn)⟩

theorem grown_row5 (w : World) (b off : Nat) (y0 y1 y2 y3 y4 : Value) : w.grownBy (((((w.setCell ⟨b, off, none⟩ y0).setCell ⟨b, off + 1, none⟩ y1).setCell ⟨b, off + 2, none⟩ y2).setCell ⟨b, off + 3, none⟩ y3).setCell ⟨b, off + 4, none⟩ y4) (some b) :=
  grown_two (grown_two (grown_two (grown_two (grown_setCell w ⟨b, off, none⟩ y0) (grown_setCell _ ⟨b, off + 1, none⟩ y1)) (grown_setCell _ ⟨b, off + 2, none⟩ y2)) (grown_setCell _ ⟨b, off + 3, none⟩ y3)) (grown_setCell _ ⟨b, off + 4, none⟩ y4)

theorem drop_any {w : World} {P : Pl} {ch : Int} {rs : Nat → List Row} (h : Qs w P ch rs) (c : Nat) (hc : (c : Int) < ch) (h0 : 0 < (rs c).length) :
    Calls Try.prog 27 #[ptr P.g, .int .i64 (c : Int)] w fun e w' => e = .returned (.tuple #[]) ∧ ∃ P' : Pl, P'.g = P.g ∧ Qs w' P' ch (fun i => if i = c then (rs c).drop 1 else rs i) ∧ Turn P.own P'.own w w' := by
  have hc4 : c < 4 := by have := h.top; omega
  have hc5 : (c : Int) < 4 := by omega
  have hc0 : (0 : Int) ≤ (c : Int) := by omega
  obtain ⟨r, hr0⟩ : ∃ r, (rs c)[0]? = some r := ⟨_, List.getElem?_eq_getElem h0⟩
  obtain ⟨b, off, k, hv, hnk, hk, hbl, hbg, hcl⟩ := h.at_ hc4 hr0
  obtain ⟨q0, f0⟩ := hcl 0 _ rfl
  obtain ⟨q1, f1⟩ := hcl 1 _ rfl
  obtain ⟨q2, f2⟩ := hcl 2 _ rfl
  obtain ⟨q3, f3⟩ := hcl 3 _ rfl
  obtain ⟨q4, f4⟩ := hcl 4 _ rfl
  rw [Nat.zero_mul, Nat.add_zero] at q0 f0 q1 f1 q2 f2 q3 f3 q4 f4
  have gc := h.cell hc4
  rw [hv] at gc
  have HR := Lib.hid h
  have HV := Lib.hid hv
  have HB := Lib.hid h0
  have fg := h.free (1 + c)
  obtain ⟨n, hn⟩ : ∃ n, (rs c).length = n := ⟨_, rfl⟩
  rw [hn] at gc h0 hnk HV
  unfold maxLen at hk
  have HN := Lib.hid hn
  clear h hv hcl hr0 hc hn
  go_enter Try.func27, Try.ntmps27
  go_upto_region 2 with fail
  refine at_wld ?_
  intro Y hY
  obtain ⟨cur, hcur⟩ : ∃ cur, w.heap[b]? = some (.cells cur 32 (0, 0)) := by
    have hrow := HR.out.rows c hc4
    rw [HV.out] at hrow
    rcases hrow.row with ⟨hv, _⟩ | ⟨g', off', cap', cur, hv, _, hg, _⟩
    · cases hv
    · injection hv with h1
      injection h1 with h1
      injection h1 with h1
      subst h1
      exact ⟨cur, hg⟩
  obtain ⟨cur', hh', hs', hk'⟩ := set_row5 (off := off) hcur (.int .i64 0) (.int .i64 0) (.int .i64 0) (.int .i64 0) (.slice none 0 0)
  have hg' := grown_row5 w b off (.int .i64 0) (.int .i64 0) (.int .i64 0) (.int .i64 0) (.slice none 0 0)
  rw [← hY] at hh' hg'
  have hY2 : Y.heap[P.g]? = w.heap[P.g]? := hg'.block P.g HR.out.g_lt (fun e => hbg (by injection e with e; exact e.symm))
  replace gc : Y.cell? ⟨P.g, 1 + c, none⟩ = some (.slice (some ⟨b, off, none⟩) n k) := (World.cell?_of_block (a := ⟨P.g, 1 + c, none⟩) hY2).trans gc
  replace fg : Y.frozen? ⟨P.g, 1 + c, none⟩ = false := (World.frozen?_of_block (a := ⟨P.g, 1 + c, none⟩) hY2).trans fg
  obtain ⟨A, hA⟩ : ∃ A : Option Addr, A = some ⟨b, if k = 1 then off else off + 5, none⟩ := ⟨_, rfl⟩
  have HEND := Lib.hid (HR.out.drop hc4 HB.out HV.out hA hg' hh' (fun cur2 hc2 => by
    rw [hcur] at hc2
    injection hc2 with hc2
    injection hc2 with hc2
    subst hc2
    exact ⟨hs', hk'⟩))
  clear hY hY2 hcur hh' hs' hk' hg' q0 q1 q2 q3 q4 f0 f1 f2 f3 f4
  have hA2 : (if k = 1 then some (⟨b, off, none⟩ : Addr) else some ⟨b, off + 5, none⟩) = A := by rw [hA]; split <;> rfl
  have HA := Lib.hid hA2
  clear hA hA2
  go_region
  all_goals
    rw [HA.out]
    go_end0
    obtain ⟨P', e1, e2, e3⟩ := HEND.out
    refine ⟨rfl, P', e1, e2.below (Below.refl _ _).drew, e3.trans (Turn.of_below _ (Below.refl _ _).drew)⟩

/-- Pop, where there is none. -/
theorem Pop_none {w : World} {P : Pl} {ch : Int} {rs : Nat → List Row} (h : Qs w P ch rs) (c : Int) (hc : ∀ k : Nat, c = (k : Int) → (k : Int) < ch → rs k = []) :
    Calls Try.prog 17 #[ptr P.g, .int .i64 c] w fun e w' => e = .returned (.tuple #[jobV zero (.slice none 0 0), .bool false]) ∧ Below w.heap.size w w' := by
  have hb := (Below.refl w.heap.size w).alloc (Nat.le_refl _) (.cells #[.int .i64 0, .int .i64 0, .int .i64 0, .int .i64 0, .slice none 0 0] 32)
  have HF := Lib.hid (First_none (h.below hb) c hc)
  have H2 := Lib.hid (Five.new w 32 (.int .i64 0) (.int .i64 0) (.int .i64 0) (.int .i64 0) (.slice none 0 0))
  have HB := Lib.hid hb
  clear h hc hb
  go_enter Try.func17, Try.ntmps17
  go_wp2_with fail
  refine HF.out.mono ?_
  rintro e w2 ⟨rfl, hb⟩
  replace H2 := Lib.hid (H2.out.below hb)
  replace HB := Lib.hid (below_on HB.out hb HB.out.size)
  clear hb HF
  go_upto_region 2 with fail
  refine at_wld ?_
  intro Y hY
  have h1 : Five Y w2.heap.size 32 (.int .i64 0) (.int .i64 0) (.int .i64 0) (.int .i64 0) (.slice none 0 0) := by rw [hY]; exact Five.new w2 _ _ _ _ _ _
  have hb : Below w2.heap.size w2 Y := by rw [hY]; exact (Below.refl _ _).alloc (Nat.le_refl _) _
  replace H2 := Lib.hid (H2.out.below hb)
  replace HB := Lib.hid (below_on HB.out hb HB.out.size)
  clear hb hY
  obtain ⟨b0, b1, b2, b3, b4⟩ := h1.cells
  obtain ⟨d0, d1, d2, d3, d4⟩ := H2.out.cells
  obtain ⟨f0, f1, f2, f3, f4⟩ := H2.out.free
  clear h1
  go_wp2
  clear f0 f1 f2 f3 f4 d0 d1 d2 d3 d4 b0 b1 b2 b3 b4
  have hP := H2.out.set (.int .i64 0) (.int .i64 0) (.int .i64 0) (.int .i64 0) (.slice none 0 0)
  have HX := Lib.hid (below_set5 HB.out (Nat.le_refl _) (.int .i64 0) (.int .i64 0) (.int .i64 0) (.int .i64 0) (.slice none 0 0))
  clear H2 HB
  generalize World.setCell _ _ _ = V at hP HX ⊢
  obtain ⟨P0, P1, P2, P3, P4⟩ := hP.cells
  refine bodyPost_ret (v := .tuple #[jobV zero (.slice none 0 0), .bool false]) ?_ rfl ⟨rfl, HX.out⟩
  simp [results, Try.results17, go_sem, P0, P1, P2, P3, P4, zero]

/-- Pop, where there is one. -/
theorem Pop_some {w : World} {P : Pl} {ch : Int} {rs : Nat → List Row} (h : Qs w P ch rs) (c : Nat) (hc : (c : Int) < ch) (r : Row) (l : List Row) (hr : rs c = r :: l) :
    Calls Try.prog 17 #[ptr P.g, .int .i64 (c : Int)] w fun e w' => ∃ v P', e = .returned (.tuple #[jobV r.j v, .bool true]) ∧ OwnI w' w.heap.size 3 v r.j.d ∧ P'.g = P.g ∧ Qs w' P' ch (fun i => if i = c then l else rs i) ∧ Turn P.own P'.own w w' ∧ ∀ b, v.ownBlock = some b → ¬ P'.own b := by
  have hb := (Below.refl w.heap.size w).alloc (Nat.le_refl _) (.cells #[.int .i64 0, .int .i64 0, .int .i64 0, .int .i64 0, .slice none 0 0] 32)
  have HF := Lib.hid (First_some (h.below hb) c hc r l hr)
  have H2 := Lib.hid (Five.new w 32 (.int .i64 0) (.int .i64 0) (.int .i64 0) (.int .i64 0) (.slice none 0 0))
  have HB := Lib.hid hb
  have HR := Lib.hid (h.below hb)
  have HLT := Lib.hid h.lt
  have HRR := Lib.hid hr
  clear h hb hr
  obtain ⟨⟨k0, l0, u0, p0, d⟩, vr⟩ := r
  dsimp only at HF ⊢
  go_enter Try.func17, Try.ntmps17
  go_wp2_with fail
  refine HF.out.mono ?_
  rintro e w2 ⟨v, rfl, ho, hb⟩
  obtain ⟨A3, n3, c3, rfl⟩ := ho.form
  rw [World.size_alloc] at ho
  have HO := Lib.hid ho
  replace H2 := Lib.hid (H2.out.below hb)
  replace HR := Lib.hid (HR.out.below hb)
  replace HB := Lib.hid (below_on HB.out hb HB.out.size)
  have HSZ : Hid (w.heap.size + 1 ≤ w2.heap.size) := Lib.hid (by have := hb.size; simpa using this)
  clear ho hb HF
  go_upto_region 3 with fail
  refine at_wld ?_
  intro Y hY
  have h1 : Five Y w2.heap.size 32 (.int .i64 k0) (.int .i64 l0) (.int .i64 u0) (.int .i64 p0) (.slice A3 n3 c3) := by rw [hY]; exact Five.new w2 _ _ _ _ _ _
  have hb : Below w2.heap.size w2 Y := by rw [hY]; exact (Below.refl _ _).alloc (Nat.le_refl _) _
  replace H2 := Lib.hid (H2.out.below hb)
  replace HR := Lib.hid (HR.out.below hb)
  replace HB := Lib.hid (below_on HB.out hb HB.out.size)
  replace HO := Lib.hid (HO.out.below hb)
  clear hb hY
  have H1 := Lib.hid h1
  have hyl : w.heap.size < Y.heap.size := H2.out.lt
  have HD := Lib.hid (drop_any HR.out c hc (by rw [HRR.out]; simp))
  clear h1
  go_wp2_with fail
  refine HD.out.mono ?_
  rintro e w4 ⟨rfl, P', hg', hq, ht⟩
  have hoo : ∀ b, P.own b → b < w.heap.size := HLT.out
  replace H1 := Lib.hid (H1.out.keep (ht.block _ H1.out.lt (fun ho => by have := hoo _ ho; have := HSZ.out; omega)))
  replace H2 := Lib.hid (H2.out.keep (ht.block _ H2.out.lt (fun ho => by have := hoo _ ho; omega)))
  have HO4 := Lib.hid (HO.out.keep (w' := w4) fun b hb => ht.block b (HO.out.lt b hb) (fun ho => by have := hoo b ho; have := HO.out.block b hb; omega))
  have HN : Hid (∀ b, w.heap.size ≤ b → b < Y.heap.size → ¬ P'.own b) := Lib.hid (fun b hb hb2 ho => (ht.own b ho).elim (fun h1 => by have := hoo b h1; omega) (fun h1 => by omega))
  have HYL : Hid (w.heap.size < Y.heap.size ∧ ∀ b, (Value.slice A3 n3 c3).ownBlock = some b → b < Y.heap.size) := Lib.hid ⟨hyl, HO.out.lt⟩
  have HT := Lib.hid ((Turn.of_below P.own HB.out).trans ht)
  have HQ := Lib.hid hq
  have HG := Lib.hid hg'
  clear ht hq hg' HD HO hyl hoo
  obtain ⟨b0, b1, b2, b3, b4⟩ := H1.out.cells
  obtain ⟨d0, d1, d2, d3, d4⟩ := H2.out.cells
  obtain ⟨f0, f1, f2, f3, f4⟩ := H2.out.free
  go_wp2
  clear f0 f1 f2 f3 f4 d0 d1 d2 d3 d4 b0 b1 b2 b3 b4
  have hP := H2.out.set (.int .i64 k0) (.int .i64 l0) (.int .i64 u0) (.int .i64 p0) (.slice A3 n3 c3)
  have HK : Hid (∀ b, b ≠ w.heap.size → (((((w4.setCell ⟨w.heap.size, 0, none⟩ (.int .i64 k0)).setCell ⟨w.heap.size, 1, none⟩ (.int .i64 l0)).setCell ⟨w.heap.size, 2, none⟩ (.int .i64 u0)).setCell ⟨w.heap.size, 3, none⟩ (.int .i64 p0)).setCell ⟨w.heap.size, 4, none⟩ (.slice A3 n3 c3)).heap[b]? = w4.heap[b]?) := Lib.hid (fun b hb => other_set5 hb _ _ _ _ _)
  have HX := Lib.hid (grown_row5 w4 w.heap.size 0 (.int .i64 k0) (.int .i64 l0) (.int .i64 u0) (.int .i64 p0) (.slice A3 n3 c3))
  clear H1 H2
  generalize World.setCell _ _ _ = V at hP HX HK ⊢
  obtain ⟨P0, P1, P2, P3, P4⟩ := hP.cells
  have hn0 : ¬ P'.own w.heap.size := HN.out _ (Nat.le_refl _) HYL.out.1
  refine bodyPost_ret (v := .tuple #[jobV ⟨k0, l0, u0, p0, d⟩ (.slice A3 n3 c3), .bool true]) ?_ rfl ⟨_, P', rfl, ?_, HG.out, ?_, ?_, ?_⟩
  · simp [results, Try.results17, go_sem, P0, P1, P2, P3, P4]
  · have h := HO4.out.keep fun b hb => HK.out b (by have := HO4.out.block b hb; omega)
    exact ⟨h.1, h.2.imp id fun ⟨g, cap, cur, hv, hg, r⟩ => ⟨g, cap, cur, hv, by omega, r⟩⟩
  · have hq := HQ.out.keep HX.out.size (fun b hb => HK.out b (fun e => hn0 (by rw [← e]; exact hb)))
    rw [HRR.out] at hq
    exact hq
  · refine ⟨HX.out.os.trans HT.out.os, HX.out.tape.trans HT.out.tape, HX.out.output.trans HT.out.output, Nat.le_trans HT.out.size HX.out.size, fun b hb ho => ?_, HT.out.own⟩
    rw [HK.out b (by omega), HT.out.block b hb ho]
  · exact fun b hb ho => HN.out b (by have := HO4.out.block b hb; omega) (HYL.out.2 b hb) ho

end Go.Proofs.Ytkpneckgpolaoaa.QueuePkg
