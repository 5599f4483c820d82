/-
  What each function of package oob does, the fourth part: fixed, head.
-/
import Derived.Test.YteonjdigcecceaaOobPack2
import Derived.Test.YteonjdigcecceaaHeld
namespace Go.Proofs.Yteonjdigcecceaa.OobPkg
open Go.RowKit
set_option maxRecDepth 4000

theorem tf_is {xs : List UInt8} (h : 4 ≤ xs.length) : tf xs = ((Wire.fk xs 4 : Int), 0) := by
  unfold tf
  rw [if_neg (by omega)]

theorem fixed_arr (p : Nat) (hp : p = 1 ∨ p = 5 ∨ p = 9) (b : List UInt8) (hl : b.length = 17) (U : Array Value) (hU : U = (b.map cellOf).toArray) (w : World) :
    Calls Try.prog 50 #[.agg U, .int .i64 (p : Int)] w fun e w' => e = .returned (.int .i64 (Wire.fk (b.drop p) 4 : Int)) ∧ Below w.heap.size w w' := by
  have ha : Arr (w.alloc (.cells U 70)) w.heap.size 70 b := by rw [hU]; exact Arr.new w _ b
  have hr := ha.bytes p
  have HB := Lib.hid ((Below.refl w.heap.size w).alloc (Nat.le_refl _) (.cells U 70))
  have hf := takeFixed_any (some ⟨w.heap.size, p, none⟩) (17 - p) (17 - p) _ (b.drop p) _ (Nat.le_refl _) (by unfold maxLen; omega) (by rw [← hl]; exact hr)
  rw [tf_is (show 4 ≤ (b.drop p).length by rw [List.length_drop]; omega)] at hf
  have hz : 0 ≤ (Wire.fk (b.drop p) 4 : Int) ∧ (Wire.fk (b.drop p) 4 : Int) < 4294967296 := by
    have := Wire.fk_lt (b.drop p) 4
    omega
  generalize (Wire.fk (b.drop p) 4 : Int) = z at hf hz
  have hUs : U.size = 17 := by rw [hU]; simpa using hl
  clear hr ha hU hl
  obtain ⟨hz0, hz1⟩ := hz
  rcases hp with rfl | rfl | rfl
  all_goals
    have HF := Lib.hid hf
    clear hf
    go_enter Try.func50, Try.ntmps50
    go_wp2_with fail
    refine HF.out.mono ?_
    rintro e w2 ⟨rfl, hw⟩; subst w2
    go_wp2
    go_ret
    exact ⟨rfl, HB.out⟩

/-! ### Three ints in a block of their own -/

/-- The block g holds metadata. -/
def Tri (w : World) (g : Nat) (k l s : Int) : Prop := w.heap[g]? = some (.cells #[.int .i64 k, .int .i64 l, .int .i64 s] 44 (0, 0))

theorem Tri.lt {w : World} {g : Nat} {k l s : Int} (h : Tri w g k l s) : g < w.heap.size := (Array.getElem?_eq_some_iff.1 h).1

theorem Tri.keep {w w' : World} {g : Nat} {k l s : Int} (h : Tri w g k l s) (hb : Below w.heap.size w w') : Tri w' g k l s := (hb.block g h.lt).trans h

theorem Tri.new (w : World) (k l s : Int) : Tri (w.alloc (.cells #[.int .i64 k, .int .i64 l, .int .i64 s] 44)) w.heap.size k l s := heap_alloc_new w _

/-- Loaded whole, as the walk leaves it. -/
theorem Tri.load {w : World} {g : Nat} {k l s : Int} (h : Tri w g k l s) : (loadCellsFrom ⟨g, 0, none⟩ 0 3 #[]).run Try.prog w = .ok #[.int .i64 k, .int .i64 l, .int .i64 s] w := by
  have hl := run_loadCells_list (P := Try.prog) w ⟨g, 0, none⟩ [.int .i64 k, .int .i64 l, .int .i64 s] (fun j v hv => by
    rw [Go.WideShapes.add_plain, Nat.zero_add]
    simp only [World.cell?, show w.heap[g]? = _ from h]
    simpa using hv)
  exact hl

/-- Laid whole, as the walk leaves it. -/
theorem Tri.store {w : World} {g : Nat} {k l s : Int} (h : Tri w g k l s) (k' l' s' : Int) :
    ∃ w', (storeCells ⟨g, 0, none⟩ [.int .i64 k', .int .i64 l', .int .i64 s']).run Try.prog w = .ok () w' ∧ Tri w' g k' l' s' ∧ Below g w w' := by
  have e := run_storeCells_from (P := Try.prog) g 44 [.int .i64 k', .int .i64 l', .int .i64 s'] 0 _ w h (by simp) (by intro v hv; simp at hv; rcases hv with rfl | rfl | rfl <;> rfl)
  refine ⟨_, e, ?_, below_setRow (Below.refl g w) (Nat.le_refl _) _⟩
  have h2 := setRow_heap w g _ ((([Value.int .i64 k, .int .i64 l, .int .i64 s] : List Value).take 0 ++ ([.int .i64 k', .int .i64 l', .int .i64 s'] : List Value)).toArray) 44 (0, 0) h
  simpa [Tri] using h2

attribute [-go_sem] loadCellsFrom storeCells

set_option maxHeartbeats 400000 in
theorem head_any (b : List UInt8) (hl : b.length = 17) (w : World) :
    Calls Try.prog 35 #[.agg (b.map cellOf).toArray] w fun e w' => e = .returned (oob (Oob.kindOf b) (Oob.lbaOf b) (bits .or .i64 (IntKind.i64.wrap (Oob.highOf b * 4294967296)) (Oob.lowOf b))) ∧ Below w.heap.size w w' := by
  have ha := Arr.new w 70 b
  have hx0 : b[0]? = some (b.getD 0 0) := by
    rw [List.getD, List.getElem?_eq_getElem (by omega)]
    rfl
  have f9 : ∀ w, Calls Try.prog 50 #[.agg (b.map cellOf).toArray, .int .i64 9] w fun e w' => e = .returned (.int .i64 (Oob.highOf b)) ∧ Below w.heap.size w w' := fun w => fixed_arr 9 (by omega) b hl _ rfl w
  have f5 : ∀ w, Calls Try.prog 50 #[.agg (b.map cellOf).toArray, .int .i64 5] w fun e w' => e = .returned (.int .i64 (Oob.lowOf b)) ∧ Below w.heap.size w w' := fun w => fixed_arr 5 (by omega) b hl _ rfl w
  have f1 : ∀ w, Calls Try.prog 50 #[.agg (b.map cellOf).toArray, .int .i64 1] w fun e w' => e = .returned (.int .i64 (Oob.lbaOf b)) ∧ Below w.heap.size w w' := fun w => fixed_arr 1 (by omega) b hl _ rfl w
  have hkd : ((b.getD 0 0).toNat : Int) = Oob.kindOf b := rfl
  obtain ⟨hk0, hk1⟩ := Oob.kind_bd b
  obtain ⟨hh0, hh1⟩ := Oob.high_bd b
  obtain ⟨hl0, hl1⟩ := Oob.low_bd b
  generalize Oob.highOf b = hi at f9 hh0 hh1 ⊢
  generalize Oob.lowOf b = lo at f5 hl0 hl1 ⊢
  generalize Oob.lbaOf b = l at f1 ⊢
  generalize Oob.kindOf b = k at hk0 hk1 hkd ⊢
  obtain ⟨cs, hcs⟩ : ∃ cs, cs = b.map cellOf := ⟨_, rfl⟩
  rw [← hcs] at f9 f5 f1 ha ⊢
  have hcl : cs.length = 17 := by rw [hcs]; simpa using hl
  have F9 := Lib.hid f9
  have F5 := Lib.hid f5
  have F1 := Lib.hid f1
  have HCS := Lib.hid hcs
  have HX0 := Lib.hid hx0
  have HKD := Lib.hid hkd
  have HL := Lib.hid hl
  have HA := Lib.hid ha
  clear f9 f5 f1 hcs hx0 hkd hl ha
  go_enter Try.func35, Try.ntmps35
  go_wp2
  refine at_world ?_
  intro X hX
  replace HA := Lib.hid (show Arr X w.heap.size 70 b by rw [hX]; exact HA.out.old _)
  have HT := Lib.hid (show Tri X (w.heap.size + 1) 0 0 0 by rw [hX]; have h := Tri.new (w.alloc (.cells cs.toArray 70)) 0 0 0; rw [World.size_alloc] at h; exact h)
  have HB := Lib.hid (show Below w.heap.size w X by rw [hX]; exact ((Below.refl w.heap.size w).alloc (Nat.le_refl _) _).alloc (by simp) _)
  clear hX
  have hGR : w.heap.size < w.heap.size + 1 := by omega
  obtain ⟨R, hR⟩ : ∃ R, R = w.heap.size + 1 := ⟨_, rfl⟩
  rw [← hR] at HT hGR ⊢
  clear hR
  have hld : (loadCellsFrom ⟨w.heap.size, 0, none⟩ 0 17 #[]).run Try.prog X.drew = .ok cs.toArray X.drew := by rw [HCS.out]; exact run_load_arr (w := X.drew) HA.out HL.out
  refine wp_region_held_drew (S := (fun w' => (loadCellsFrom ⟨w.heap.size, 0, none⟩ 0 17 #[]).run Try.prog w' = .ok cs.toArray w')) (by kernel_rfl) ?_ (fun hHeld => ?_)
  · exact hld
  refine Hand.held_take (i := 0) (d := 4) (v := ?_) rfl rfl (by kernel_rfl) (by kernel_rfl) (by kernel_rfl) (by rfl) ?_ (by assumption) (fun _ _ _ h => h) ?_
  rotate_left
  · intro w hSw
    go_simp
    with_reducible rfl
  try simp only [Act.put, List.setIfInBounds_toArray, List.set_cons_zero, List.set_cons_succ]
  refine Hand.held_take (i := 3) (d := 7) (v := ?_) rfl rfl (by kernel_rfl) (by kernel_rfl) (by kernel_rfl) (by rfl) ?_ (by assumption) (fun _ _ _ h => h) ?_
  rotate_left
  · intro w hSw
    go_simp
    with_reducible rfl
  try simp only [Act.put, List.setIfInBounds_toArray, List.set_cons_zero, List.set_cons_succ]
  refine wpAnyH_ready (rs := [1]) (by kernel_rfl) (by simp) ?_
  refine AllReadyH.cons rfl (fun K hK => ?_) AllReadyH.nil
  go_simp
  go_wp2_with (go_at_call 50; refine (F9.out _).mono ?_; rintro e w2 ⟨rfl, hb⟩; have HA2 := Lib.hid (HA.out.keepd hb))
  refine hK.out _ _ ?_ (fun hHeld => ?_)
  · rw [HCS.out]; exact run_load_arr HA2.out HL.out
  clear hK K
  refine Hand.held_take (i := 2) (d := 6) (v := ?_) rfl rfl (by kernel_rfl) (by kernel_rfl) (by kernel_rfl) (by rfl) ?_ (by assumption) (fun _ _ _ h => h) ?_
  rotate_left
  · intro w hSw
    go_simp
    with_reducible rfl
  try simp only [Act.put, List.setIfInBounds_toArray, List.set_cons_zero, List.set_cons_succ]
  refine wpAnyH_ready (rs := [4]) (by kernel_rfl) (by simp) ?_
  refine AllReadyH.cons rfl (fun K hK => ?_) AllReadyH.nil
  go_simp
  go_wp2_with (go_at_call 50; refine (F5.out _).mono ?_; rintro e w3 ⟨rfl, hb2⟩; have HA3 := Lib.hid (HA2.out.keep hb2))
  refine hK.out _ _ ?_ (fun hHeld => ?_)
  · rw [HCS.out]; exact run_load_arr HA3.out HL.out
  clear hK K
  refine Hand.held_take (i := 5) (d := 9) (v := ?_) rfl rfl (by kernel_rfl) (by kernel_rfl) (by kernel_rfl) (by rfl) ?_ (by assumption) (fun _ _ _ h => h) ?_
  rotate_left
  · intro w hSw
    go_simp
    with_reducible rfl
  try simp only [Act.put, List.setIfInBounds_toArray, List.set_cons_zero, List.set_cons_succ]
  refine Hand.held_take (i := 6) (d := 3) (v := ?_) rfl rfl (by kernel_rfl) (by kernel_rfl) (by kernel_rfl) (by rfl) ?_ (by assumption) (fun _ _ _ h => h) ?_
  rotate_left
  · intro w hSw
    go_simp
    with_reducible rfl
  try simp only [Act.put, List.setIfInBounds_toArray, List.set_cons_zero, List.set_cons_succ]
  refine wpAnyH_done (by kernel_rfl) ?_ _
  go_wp2
  have hwk : IntKind.i64.wrap k = k := (IntWalk.i64_left k).trans (IntWalk.wrap64_in k ⟨by omega, by omega⟩)
  obtain ⟨st, hst⟩ : ∃ st, st = bits .or .i64 (IntKind.i64.wrap (hi * 4294967296)) lo := ⟨_, rfl⟩
  rw [← hst]
  have HST := Lib.hid hst
  have HB3 := Lib.hid (below_on (below_on HB.out.drew hb) hb2)
  have HT3 := Lib.hid ((Tri.keep (w := X.drew) HT.out hb).keep hb2)
  clear hst hHeld hld hb hb2
  have hld : (loadCellsFrom ⟨w.heap.size, 0, none⟩ 0 17 #[]).run Try.prog w3.drew = .ok cs.toArray w3.drew ∧ w3.drew.cell? ⟨w.heap.size, 0, none⟩ = some (.int .u8 k) := ⟨by rw [HCS.out]; exact run_load_arr (w := w3.drew) HA3.out HL.out, by rw [← HKD.out]; exact HA3.out.cell HX0.out⟩
  refine wp_region_held_drew (S := (fun w' => (loadCellsFrom ⟨w.heap.size, 0, none⟩ 0 17 #[]).run Try.prog w' = .ok cs.toArray w' ∧ w'.cell? ⟨w.heap.size, 0, none⟩ = some (.int .u8 k))) (by kernel_rfl) ?_ (fun hHeld => ?_)
  · exact hld
  refine Hand.held_take (i := 0) (d := 10) (v := ?_) rfl rfl (by kernel_rfl) (by kernel_rfl) (by kernel_rfl) (by rfl) ?_ (by assumption) (fun _ _ _ h => h) ?_
  rotate_left
  · intro w hSw
    go_simp
    with_reducible rfl
  try simp only [Act.put, List.setIfInBounds_toArray, List.set_cons_zero, List.set_cons_succ]
  refine Hand.held_take (i := 1) (d := 11) (v := ?_) rfl rfl (by kernel_rfl) (by kernel_rfl) (by kernel_rfl) (by rfl) ?_ (by assumption) (fun _ _ _ h => h) ?_
  rotate_left
  · intro w hSw
    go_simp
    with_reducible rfl
  try simp only [Act.put, List.setIfInBounds_toArray, List.set_cons_zero, List.set_cons_succ]
  refine Hand.held_take (i := 2) (d := 12) (v := ?_) rfl rfl (by kernel_rfl) (by kernel_rfl) (by kernel_rfl) (by rfl) ?_ (by assumption) (fun _ _ _ h => h) ?_
  rotate_left
  · intro w hSw
    go_simp
    with_reducible rfl
  try simp only [Act.put, List.setIfInBounds_toArray, List.set_cons_zero, List.set_cons_succ]
  refine Hand.held_take (i := 3) (d := 13) (v := ?_) rfl rfl (by kernel_rfl) (by kernel_rfl) (by kernel_rfl) (by rfl) ?_ (by assumption) (fun _ _ _ h => h) ?_
  rotate_left
  · intro w hSw
    go_simp
    with_reducible rfl
  try simp only [Act.put, List.setIfInBounds_toArray, List.set_cons_zero, List.set_cons_succ]
  refine Hand.held_take (i := 5) (d := 15) (v := ?_) rfl rfl (by kernel_rfl) (by kernel_rfl) (by kernel_rfl) (by rfl) ?_ (by assumption) (fun _ _ _ h => h) ?_
  rotate_left
  · intro w hSw
    go_simp
    with_reducible rfl
  try simp only [Act.put, List.setIfInBounds_toArray, List.set_cons_zero, List.set_cons_succ]
  refine wpAnyH_ready (rs := [4]) (by kernel_rfl) (by simp) ?_
  refine AllReadyH.cons rfl (fun K hK => ?_) AllReadyH.nil
  go_simp
  go_wp2_with (go_at_call 50; refine (F1.out _).mono ?_; rintro e w4 ⟨rfl, hb⟩; have HA4 := Lib.hid (HA3.out.keepd hb))
  refine hK.out _ _ ?_ (fun hHeld => ?_)
  · exact ⟨by rw [HCS.out]; exact run_load_arr HA4.out HL.out, by rw [← HKD.out]; exact HA4.out.cell HX0.out⟩
  clear hK K
  refine Hand.held_take (i := 6) (d := 16) (v := ?_) rfl rfl (by kernel_rfl) (by kernel_rfl) (by kernel_rfl) (by rfl) ?_ (by assumption) (fun _ _ _ h => h) ?_
  rotate_left
  · intro w hSw
    go_simp
    with_reducible rfl
  try simp only [Act.put, List.setIfInBounds_toArray, List.set_cons_zero, List.set_cons_succ]
  obtain ⟨w5, hst, ht5, hb5⟩ := (Tri.keep (w := w3.drew) HT3.out hb).store k l st
  have HA5 := Lib.hid (show Arr w5 w.heap.size 70 b from (hb5.block _ hGR).trans HA4.out)
  refine wpAnyH_ready (rs := [7]) (by kernel_rfl) (by simp) ?_
  refine AllReadyH.cons rfl (fun K hK => ?_) AllReadyH.nil
  go_simp
  refine hK.out _ _ ?_ (fun hHeld => ?_)
  · exact ⟨by rw [HCS.out]; exact run_load_arr HA5.out HL.out, by rw [← HKD.out]; exact HA5.out.cell HX0.out⟩
  clear hK K
  refine wpAnyH_done (by kernel_rfl) ?_ _
  have hld5 := ht5.load
  have HEND := Lib.hid (show Ending.returned (oob k l st) = .returned (oob k l st) ∧ Below w.heap.size w w5 from ⟨rfl, (below_on HB3.out.drew hb).trans (hb5.mono (by omega))⟩)
  clear hHeld hst ht5 hb5 hb hld
  go_wp2
  refine bodyPost_ret (v := oob k l st) ?_ rfl ⟨by rw [HST.out], HEND.out.2⟩
  simp [results, Try.results35, go_sem, hld5]

end Go.Proofs.Yteonjdigcecceaa.OobPkg
