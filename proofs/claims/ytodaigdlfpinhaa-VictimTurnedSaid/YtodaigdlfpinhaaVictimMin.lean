/-
  What slices.MinFunc does over ranks, and package victim's Pick.
-/
import Derived.Test.YtodaigdlfpinhaaVictimRanks
import Derived.Shelf.SlSortCmp.QuietGrown
namespace Go.Proofs.Ytodaigdlfpinhaa.VictimPkg
open Go.RowKit Victim Lib
open Go.Sort (grow alloc_eq_grow grow_grow size_grow heap_grow_old)
set_option maxRecDepth 4000

/-- a is the best of the list. -/
def Best (l : List K) (a : K) : Prop := a ∈ l ∧ ∀ b ∈ l, lt b a = false

theorem best_one (d : List K) (h : 0 < d.length) : Best (d.take 1) d[0] := by
  cases d with
  | nil => simp at h
  | cons a d => exact ⟨by simp, by simp [lt_irrefl]⟩

theorem best_yes {d : List K} {t : Nat} {a x : K} (h : Best (d.take t) a) (hx : d[t]? = some x) (hl : lt x a = true) : Best (d.take (t + 1)) x := by
  rw [Best, List.take_add_one, hx]
  refine ⟨by simp, fun b hb => ?_⟩
  rcases List.mem_append.1 hb with hb | hb
  · have h1 := h.2 b hb
    cases hc : lt b x with
    | false => rfl
    | true => rw [lt_trans b x a hc hl] at h1; cases h1
  · simp at hb
    rw [hb]
    exact lt_irrefl x

theorem best_no {d : List K} {t : Nat} {a x : K} (h : Best (d.take t) a) (hx : d[t]? = some x) (hl : lt x a = false) : Best (d.take (t + 1)) a := by
  rw [Best, List.take_add_one, hx]
  refine ⟨List.mem_append_left _ h.1, fun b hb => ?_⟩
  rcases List.mem_append.1 hb with hb | hb
  · exact h.2 b hb
  · simp at hb
    rw [hb]
    exact hl

theorem below_grow {B : Nat} {a w : World} (h : Below B a w) (hB : B ≤ w.heap.size) (n : Nat) (os : Array Obj) : Below B a (grow (w.drewN n) os) :=
  ⟨h.os, h.tape, h.output, by rw [size_grow]; exact Nat.le_trans h.size (Nat.le_add_right _ _), fun k hk => by rw [heap_grow_old _ _ (show k < (w.drewN n).heap.size from Nat.lt_of_lt_of_le hk hB)]; exact h.block k hk⟩

theorem grow_below (w : World) (n : Nat) (os : Array Obj) : Below w.heap.size w (grow (w.drewN n) os) := below_grow (Below.refl _ _) (Nat.le_refl _) n os

theorem against_grown (a b : K) (w : World) : Calls Try.prog 19 #[rankV a, rankV b] w fun e w' => e = .returned (.int .i64 (cmpK a b)) ∧ ∃ q os', w' = grow (w.drewN q) os' :=
  (against_any a b w).mono fun _ _ hh => ⟨hh.1, 0, #[boxR a] ++ #[boxR b], by rw [hh.2, alloc_eq_grow, alloc_eq_grow, grow_grow]; rfl⟩

theorem box_cells {w : World} {b : Nat} {a : K} (h : w.heap[b]? = some (boxR a)) :
    (w.cell? ⟨b, 0, none⟩ = some (ifv 53 a.1) ∧ w.cell? ⟨b, 1, none⟩ = some (ifv 54 a.2.1) ∧ w.cell? ⟨b, 2, none⟩ = some (ifv 48 a.2.2)) ∧
    w.frozen? ⟨b, 0, none⟩ = false ∧ w.frozen? ⟨b, 1, none⟩ = false ∧ w.frozen? ⟨b, 2, none⟩ = false := by
  refine ⟨⟨?_, ?_, ?_⟩, ?_, ?_, ?_⟩ <;> simp [World.cell?, World.frozen?, h, boxR, rankC]

theorem row_cells {w : World} {base : Nat} {g n c : Nat} {d : List K} (h : OwnR w base 38 3 (.slice (some ⟨g, 0, none⟩) n c) (rrows d)) {t : Nat} {x : K} (hx : d[t]? = some x) :
    w.cell? ⟨g, t * 3, none⟩ = some (ifv 53 x.1) ∧ w.cell? ⟨g, t * 3 + 1, none⟩ = some (ifv 54 x.2.1) ∧ w.cell? ⟨g, t * 3 + 2, none⟩ = some (ifv 48 x.2.2) := by
  have hr : (rrows d)[t]? = some (rankC x) := by simp [rrows, hx]
  have h0 := (h.cell hr (j := 0) rfl).1
  rw [Nat.add_zero] at h0
  exact ⟨h0, (h.cell hr (j := 1) rfl).1, (h.cell hr (j := 2) rfl).1⟩

theorem box_set {w : World} {b : Nat} {a : K} (h : w.heap[b]? = some (boxR a)) (x : K) :
    (((w.setCell ⟨b, 0, none⟩ (ifv 53 x.1)).setCell ⟨b, 1, none⟩ (ifv 54 x.2.1)).setCell ⟨b, 2, none⟩ (ifv 48 x.2.2)).heap[b]? = some (boxR x) := by
  simp [World.setCell, Array.getElem?_modify, h, boxR, rankC]

theorem box_set' {w : World} {b : Nat} {u0 u1 u2 : Value} (h : w.heap[b]? = some (.cells #[u0, u1, u2] 38 (0, 0))) (x : K) :
    (((w.setCell ⟨b, 0, none⟩ (ifv 53 x.1)).setCell ⟨b, 1, none⟩ (ifv 54 x.2.1)).setCell ⟨b, 2, none⟩ (ifv 48 x.2.2)).heap[b]? = some (boxR x) := by
  simp [World.setCell, Array.getElem?_modify, h, boxR, rankC]

theorem below_set3 {w : World} {B g : Nat} {a : World} (h : Below B a w) (hg : B ≤ g) (y0 y1 y2 : Value) : Below B a (((w.setCell ⟨g, 0, none⟩ y0).setCell ⟨g, 1, none⟩ y1).setCell ⟨g, 2, none⟩ y2) :=
  ((h.setCell hg _).setCell hg _).setCell hg _
theorem other_set3 {w : World} {b g : Nat} (hb : b ≠ g) (y0 y1 y2 : Value) : (((w.setCell ⟨g, 0, none⟩ y0).setCell ⟨g, 1, none⟩ y1).setCell ⟨g, 2, none⟩ y2).heap[b]? = w.heap[b]? := by
  rw [Below.heap_setCell _ _ _ _ hb, Below.heap_setCell _ _ _ _ hb, Below.heap_setCell _ _ _ _ hb]

theorem enters_against : ∀ args w, (callFunc 19 args).run Try.prog w = .ok (.enter 19 args) w := enters_of Try.func19 (by kernel_rfl) rfl

set_option maxHeartbeats 4000000 in
theorem MinFunc_any {w : World} {base : Nat} {v : Value} {d : List K} (h : OwnR w base 38 3 v (rrows d)) (hd : 0 < d.length) (hn : d.length ≤ 1000) :
    Calls Try.prog 18 #[v, .func (.func 19) #[] #[]] w fun e w' => (∃ a, e = .returned (rankV a) ∧ Best d a) ∧ Below w.heap.size w w' := by
  obtain ⟨A, c, rfl, hnc, hcm, hg⟩ := h.form
  obtain ⟨g, rfl⟩ := hg (by rw [rrows_len]; exact hd)
  rw [rrows_len] at *
  have HROW := Lib.hid h
  have hgl : g < w.heap.size := h.lt g rfl
  obtain ⟨k0, k1, k2⟩ := row_cells h (show d[0]? = some d[0] from List.getElem?_eq_getElem hd)
  have HB1 := Lib.hid (best_one d hd)
  generalize d[0] = a0 at *
  obtain ⟨n, hnn⟩ : ∃ n, n = d.length := ⟨_, rfl⟩
  rw [← hnn] at hd hn hnc HROW ⊢
  have HN := Lib.hid hnn
  have hz : ¬ (n : Int) < 1 := by omega
  rw [Nat.zero_mul] at k0 k1 k2
  clear h hnn
  go_enter Try.func18, Try.ntmps18
  have HX : Hid (∀ X, X = (w.alloc (.cells #[.nilIface, .nilIface, .nilIface] 38)).alloc (.cells (rankC a0).toArray 38) → X.heap[w.heap.size]? = some (.cells #[.nilIface, .nilIface, .nilIface] 38 (0, 0)) ∧ X.heap[w.heap.size + 1]? = some (boxR a0) ∧ Below w.heap.size w X) := Lib.hid (by
    rintro X rfl
    refine ⟨(Below.heap_alloc _ _ _ (by simp)).trans (heap_alloc_new w _), ?_, below_new2 _ _ _⟩
    have := heap_alloc_new (w.alloc (.cells #[.nilIface, .nilIface, .nilIface] 38)) (.cells (rankC a0).toArray 38)
    rwa [World.size_alloc] at this)
  go_wp2_with fail
  go_loopw [6] (fun i wr => ∃ (t : Nat) (a : K), i = .int .i64 (t : Int) ∧ 1 ≤ t ∧ t ≤ n ∧ wr.heap[w.heap.size]? = some (.cells #[.nilIface, .nilIface, .nilIface] 38 (0, 0)) ∧ wr.heap[w.heap.size + 1]? = some (boxR a) ∧ Below w.heap.size w wr ∧ Best (d.take t) a) (fun i _ => n - (intOf i).toNat)
  case atStart => exact ⟨1, a0, rfl, by omega, by omega, (HX.out _ rfl).1, (HX.out _ rfl).2.1, (HX.out _ rfl).2.2, HB1.out⟩
  case round =>
    clear HX HB1 k0 k1 k2
    obtain ⟨t, a, rfl, ht1, htn, hr0, hm0, hbw, hba⟩ := hrel
    have HR0 := Lib.hid hr0
    have HM0 := Lib.hid hm0
    have HBW := Lib.hid hbw
    have HBA := Lib.hid hba
    have hrw := HROW.out.below hbw
    obtain ⟨⟨m0, m1, m2⟩, f0, f1, f2⟩ := box_cells hm0
    obtain ⟨r0, r1, r2, s0, s1, s2⟩ : (wr.cell? ⟨w.heap.size, 0, none⟩ = some .nilIface ∧ wr.cell? ⟨w.heap.size, 1, none⟩ = some .nilIface ∧ wr.cell? ⟨w.heap.size, 2, none⟩ = some .nilIface ∧ wr.frozen? ⟨w.heap.size, 0, none⟩ = false ∧ wr.frozen? ⟨w.heap.size, 1, none⟩ = false ∧ wr.frozen? ⟨w.heap.size, 2, none⟩ = false) := by
      refine ⟨?_, ?_, ?_, ?_, ?_, ?_⟩ <;> simp [World.cell?, World.frozen?, hr0]
    have hs0 := (Array.getElem?_eq_some_iff.1 hr0).1
    have hs1 := (Array.getElem?_eq_some_iff.1 hm0).1
    clear hr0 hm0 hba
    by_cases hlt : t < n
    · have hlt' : (t : Int) < n := by omega
      obtain ⟨x, hx⟩ : ∃ x, d[t]? = some x := ⟨_, List.getElem?_eq_getElem (by rw [← HN.out]; exact hlt)⟩
      obtain ⟨c0, c1, c2⟩ := row_cells hrw hx
      have HXX := Lib.hid hx
      have hgl' : g < wr.heap.size := Nat.lt_of_lt_of_le hgl hbw.size
      have g0 := fun q os => cell_grown (n := q) (os := os) hgl' c0
      have g1 := fun q os => cell_grown (n := q) (os := os) hgl' c1
      have g2 := fun q os => cell_grown (n := q) (os := os) hgl' c2
      have e0 := fun q os => cell_grown (n := q) (os := os) hs1 m0
      have e1 := fun q os => cell_grown (n := q) (os := os) hs1 m1
      have e2 := fun q os => cell_grown (n := q) (os := os) hs1 m2
      have hcmp := fun q os => against_grown x a (grow (wr.drewN q) os)
      clear hx hrw hbw r0 r1 r2 s0 s1 s2 c0 c1 c2 m0 m1 m2 f0 f1 f2
      have HXA : Hid (lt x a = decide (cmpK x a < 0)) := Lib.hid rfl
      unfold rankV rankC at hcmp
      generalize cmpK x a = z at hcmp HXA
      have mixed : Try.prog.follows .mixedOrders = true := by kernel_rfl
      have eg := enters_against
      cases hz : decide (z < 0) with
      | true =>
        go_wp2_with fail
        go_quiet_grown (first | (go_at_fn 19; refine Calls.grown_of (hcmp _ _)))
        have hgb := grow_below wr nq osq
        have HR2 := Lib.hid ((hgb.block _ hs0).trans HR0.out)
        have HM2 := Lib.hid ((hgb.block _ hs1).trans HM0.out)
        have HBW2 := Lib.hid (below_then HBW.out hgb)
        clear hgb g0 g1 g2 e0 e1 e2 hcmp
        dsimp only at *
        generalize grow (wr.drewN nq) osq = w2 at *
        have hx2 := HXX.out
        obtain ⟨c0, c1, c2⟩ := row_cells (HROW.out.below HBW2.out) HXX.out
        obtain ⟨⟨m0, m1, m2⟩, f0, f1, f2⟩ := box_cells HM2.out
        have HB2 := Lib.hid (best_yes HBA.out HXX.out (HXA.out.trans hz))
        have HST := Lib.hid (box_set HM2.out x)
        have HSR := Lib.hid ((other_set3 (g := w.heap.size + 1) (b := w.heap.size) (w := w2) (by omega) (ifv 53 x.1) (ifv 54 x.2.1) (ifv 48 x.2.2)).trans HR2.out)
        have HSB := Lib.hid (below_set3 HBW2.out (show w.heap.size ≤ w.heap.size + 1 by omega) (ifv 53 x.1) (ifv 54 x.2.1) (ifv 48 x.2.2))
        clear hx2
        go_wp2
        go_roundw
        case measure => simp [intOf]; omega
        case rel => exact ⟨t + 1, x, by go_num, by omega, by omega, HSR.out, HST.out, HSB.out, HB2.out⟩
      | false =>
        go_wp2_with fail
        go_quiet_grown (first | (go_at_fn 19; refine Calls.grown_of (hcmp _ _)))
        have hgb := grow_below wr nq osq
        have HR2 := Lib.hid ((hgb.block _ hs0).trans HR0.out)
        have HM2 := Lib.hid ((hgb.block _ hs1).trans HM0.out)
        have HBW2 := Lib.hid (below_then HBW.out hgb)
        clear hgb g0 g1 g2 e0 e1 e2 hcmp
        dsimp only at *
        generalize grow (wr.drewN nq) osq = w2 at *
        have HB2 := Lib.hid (best_no HBA.out HXX.out (HXA.out.trans hz))
        go_wp2
        go_roundw
        case measure => simp [intOf]; omega
        case rel => exact ⟨t + 1, a, by go_num, by omega, by omega, HR2.out, HM2.out, HBW2.out, HB2.out⟩
    · obtain rfl : t = n := by omega
      have HFI := Lib.hid (below_set3 HBW.out (Nat.le_refl w.heap.size) (ifv 53 a.1) (ifv 54 a.2.1) (ifv 48 a.2.2))
      have HBE : Hid (Best d a) := Lib.hid (by have := HBA.out; rwa [HN.out, List.take_length] at this)
      have HRS := Lib.hid (box_set' HR0.out a)
      clear hrw hbw
      go_wp2
      refine bodyPost_ret (v := rankV a) ?_ rfl ⟨⟨_, rfl, HBE.out⟩, HFI.out⟩
      obtain ⟨⟨z0, z1, z2⟩, _, _, _⟩ := box_cells HRS.out
      simp [results, Try.results18, go_sem, z0, z1, z2, rankV, rankC]

end Go.Proofs.Ytodaigdlfpinhaa.VictimPkg
