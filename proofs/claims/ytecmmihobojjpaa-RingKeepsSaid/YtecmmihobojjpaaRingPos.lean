/-
  What package ring's 'positions' does with each test that it is handed.
-/
import Derived.Test.YtecmmihobojjpaaRingPlaces
import Derived.RegionTactic
namespace Go.Proofs.Ytecmmihobojjpaa.RingPkg
open Go.RowKit Ring
set_option maxRecDepth 4000

/-- The first k of them shifted. -/
def shift (t : Int) (k : Nat) (l : List Int) : List Int := (l.take k).map (· + t) ++ l.drop k

theorem shift_zero (t : Int) (l : List Int) : shift t 0 l = l := by simp [shift]
theorem shift_all (t : Int) (l : List Int) : shift t l.length l = l.map (· + t) := by simp [shift]
theorem shift_len (t : Int) (k : Nat) (l : List Int) : (shift t k l).length = l.length := by simp [shift]; omega
theorem shift_at (t : Int) (k : Nat) (l : List Int) (z : Int) (h : l[k]? = some z) : (shift t k l)[k]? = some z := by
  have hl := (List.getElem?_eq_some_iff.1 h).1
  unfold shift
  rw [List.getElem?_append_right (by simp; omega)]
  simp [Nat.min_eq_left (Nat.le_of_lt hl), h]
theorem shift_set (t : Int) (k : Nat) (l : List Int) (z : Int) (h : l[k]? = some z) : (shift t k l).set k (z + t) = shift t (k + 1) l := by
  obtain ⟨hl, rfl⟩ := List.getElem?_eq_some_iff.1 h
  unfold shift
  rw [List.set_append_right _ _ (by simp; omega), List.take_succ_eq_append_getElem hl, List.map_append, List.length_map, List.length_take, Nat.min_eq_left (Nat.le_of_lt hl), Nat.sub_self]
  simp
  rw [List.drop_eq_getElem_cons hl]
  rfl

/-- Positions: places behind the tail. -/
def poss (t : Int) (l : List Nat) : List Int := (nums l).map (· + t)

set_option maxHeartbeats 1000000 in
theorem positions_waits  (p : Row → Bool) {P : Pl} {size t : Int} {rs : List Row} {w : World} (h : Rng w P size t rs) (h0 : 0 ≤ t) (h1 : t + rs.length ≤ 1000000000000) (many : Int)
    (his : ∀ r ∈ rs, ∀ w1, Below w.heap.size w w1 → Calls Try.prog 32 #[rowV r] w1 fun e w' => e = .returned (.bool (p r)) ∧ Below w1.heap.size w1 w') :
    Calls Try.prog 31 #[ptr P.g, .int .i64 many, .func (.func 32) #[] #[]] w fun e w' => ∃ u, e = .returned u ∧ OwnI w' w.heap.size 3 u (poss t ((sel p rs).take many.toNat)) ∧ Below w.heap.size w w' := by
  obtain ⟨_, _, hc2⟩ := h.cells
  have hln : ((sel p rs).take many.toNat).length ≤ rs.length := Nat.le_trans (List.length_take_le' _ _) (sel_len p rs)
  have hel : ∀ i ∈ (sel p rs).take many.toNat, i < rs.length := fun i hi => sel_lt p rs i (List.mem_of_mem_take hi)
  have HP := Lib.hid (places_waits  p P.v rs many w h.rows (by omega) (fun r hr => by obtain ⟨A, c, hv, _⟩ := h.data r hr; exact ⟨_, _, _, hv⟩) his)
  have HR := Lib.hid h
  clear h his
  generalize (sel p rs).take many.toNat = l at HP hln hel ⊢
  have HEL := Lib.hid hel
  clear hel
  go_enter Try.func31, Try.ntmps31
  go_wp2_with fail
  refine HP.out.mono ?_
  rintro e w2 ⟨u, rfl, ho, hb⟩
  obtain ⟨A, m, c, rfl⟩ := ho.form
  have hm : l.length = m := by have := ho.len; rw [nums_len] at this; exact this
  have HM := Lib.hid hm
  rw [hm] at hln
  have HO := Lib.hid ho
  have HB := Lib.hid hb
  have hmc : m ≤ 9223372036854775807 := by omega
  clear ho hb hc2 hm HP
  go_wp2
  go_loopw [18] (fun i wr => ∃ k : Nat, k ≤ m ∧ i = .int .i64 k ∧ OwnI wr w.heap.size 3 (.slice A m c) (shift t k (nums l)) ∧ Below w.heap.size w wr) (fun i _ => m - (intOf i).toNat)
  case atStart => exact ⟨0, by omega, rfl, by rw [shift_zero]; exact HO.out, HB.out⟩
  case round =>
    obtain ⟨k, hk, rfl, ho, hb⟩ := hrel
    replace HO := Lib.hid ho
    replace HB := Lib.hid hb
    clear ho hb
    by_cases hlt : k < m
    · obtain ⟨g, rfl, hg, hcc⟩ := HO.out.first (by omega)
      obtain ⟨i, hi⟩ : ∃ i, l[k]? = some i := ⟨_, List.getElem?_eq_getElem (by rw [HM.out]; exact hlt)⟩
      have hil := HEL.out i (List.mem_of_getElem? hi)
      have hz : (nums l)[k]? = some (i : Int) := by simp [nums, hi]
      have hset := shift_set t k _ _ hz
      obtain ⟨hcl, hfz⟩ := HO.out.cell (shift_at t k _ _ hz)
      obtain ⟨_, hct, _⟩ := (HR.out.below HB.out).cells
      have hw : IntKind.i64.wrap ((i : Int) + t) = (i : Int) + t := kwrap_is (by omega) (by omega)
      have hw2 : wrap64 ((i : Int) + t) = (i : Int) + t := IntWalk.wrap64_in _ (by omega)
      have HSET := Lib.hid hset
      clear hset hz hi
      generalize (i : Int) = z at *
      go_wp2
      go_region
      all_goals
        go_wp2
        go_roundw
        case rel => exact ⟨k + 1, by omega, by go_num, by rw [← HSET.out]; exact HO.out.set k _, (HB.out.setCell (p := ⟨g, k, none⟩) hg _).drew⟩
        case measure => simp [intOf]; omega
    · have HK := Lib.hid (show k = (nums l).length by rw [nums_len, HM.out]; omega)
      go_wp2
      go_ret
      refine ⟨_, rfl, ?_, HB.out⟩
      have h := HO.out
      rw [HK.out, shift_all] at h
      exact h

set_option maxHeartbeats 1000000 in
theorem positions_left  (p : Row → Bool) {P : Pl} {size t : Int} {rs : List Row} {w : World} (h : Rng w P size t rs) (h0 : 0 ≤ t) (h1 : t + rs.length ≤ 1000000000000) (many : Int)
    (his : ∀ r ∈ rs, ∀ w1, Below w.heap.size w w1 → Calls Try.prog 51 #[rowV r] w1 fun e w' => e = .returned (.bool (p r)) ∧ Below w1.heap.size w1 w') :
    Calls Try.prog 31 #[ptr P.g, .int .i64 many, .func (.func 51) #[] #[]] w fun e w' => ∃ u, e = .returned u ∧ OwnI w' w.heap.size 3 u (poss t ((sel p rs).take many.toNat)) ∧ Below w.heap.size w w' := by
  obtain ⟨_, _, hc2⟩ := h.cells
  have hln : ((sel p rs).take many.toNat).length ≤ rs.length := Nat.le_trans (List.length_take_le' _ _) (sel_len p rs)
  have hel : ∀ i ∈ (sel p rs).take many.toNat, i < rs.length := fun i hi => sel_lt p rs i (List.mem_of_mem_take hi)
  have HP := Lib.hid (places_left  p P.v rs many w h.rows (by omega) (fun r hr => by obtain ⟨A, c, hv, _⟩ := h.data r hr; exact ⟨_, _, _, hv⟩) his)
  have HR := Lib.hid h
  clear h his
  generalize (sel p rs).take many.toNat = l at HP hln hel ⊢
  have HEL := Lib.hid hel
  clear hel
  go_enter Try.func31, Try.ntmps31
  go_wp2_with fail
  refine HP.out.mono ?_
  rintro e w2 ⟨u, rfl, ho, hb⟩
  obtain ⟨A, m, c, rfl⟩ := ho.form
  have hm : l.length = m := by have := ho.len; rw [nums_len] at this; exact this
  have HM := Lib.hid hm
  rw [hm] at hln
  have HO := Lib.hid ho
  have HB := Lib.hid hb
  have hmc : m ≤ 9223372036854775807 := by omega
  clear ho hb hc2 hm HP
  go_wp2
  go_loopw [18] (fun i wr => ∃ k : Nat, k ≤ m ∧ i = .int .i64 k ∧ OwnI wr w.heap.size 3 (.slice A m c) (shift t k (nums l)) ∧ Below w.heap.size w wr) (fun i _ => m - (intOf i).toNat)
  case atStart => exact ⟨0, by omega, rfl, by rw [shift_zero]; exact HO.out, HB.out⟩
  case round =>
    obtain ⟨k, hk, rfl, ho, hb⟩ := hrel
    replace HO := Lib.hid ho
    replace HB := Lib.hid hb
    clear ho hb
    by_cases hlt : k < m
    · obtain ⟨g, rfl, hg, hcc⟩ := HO.out.first (by omega)
      obtain ⟨i, hi⟩ : ∃ i, l[k]? = some i := ⟨_, List.getElem?_eq_getElem (by rw [HM.out]; exact hlt)⟩
      have hil := HEL.out i (List.mem_of_getElem? hi)
      have hz : (nums l)[k]? = some (i : Int) := by simp [nums, hi]
      have hset := shift_set t k _ _ hz
      obtain ⟨hcl, hfz⟩ := HO.out.cell (shift_at t k _ _ hz)
      obtain ⟨_, hct, _⟩ := (HR.out.below HB.out).cells
      have hw : IntKind.i64.wrap ((i : Int) + t) = (i : Int) + t := kwrap_is (by omega) (by omega)
      have hw2 : wrap64 ((i : Int) + t) = (i : Int) + t := IntWalk.wrap64_in _ (by omega)
      have HSET := Lib.hid hset
      clear hset hz hi
      generalize (i : Int) = z at *
      go_wp2
      go_region
      all_goals
        go_wp2
        go_roundw
        case rel => exact ⟨k + 1, by omega, by go_num, by rw [← HSET.out]; exact HO.out.set k _, (HB.out.setCell (p := ⟨g, k, none⟩) hg _).drew⟩
        case measure => simp [intOf]; omega
    · have HK := Lib.hid (show k = (nums l).length by rw [nums_len, HM.out]; omega)
      go_wp2
      go_ret
      refine ⟨_, rfl, ?_, HB.out⟩
      have h := HO.out
      rw [HK.out, shift_all] at h
      exact h

set_option maxHeartbeats 1000000 in
theorem positions_mine (cap : Value) (p : Row → Bool) {P : Pl} {size t : Int} {rs : List Row} {w : World} (h : Rng w P size t rs) (h0 : 0 ≤ t) (h1 : t + rs.length ≤ 1000000000000) (many : Int)
    (his : ∀ r ∈ rs, ∀ w1, Below w.heap.size w w1 → Calls Try.prog 47 #[rowV r, cap] w1 fun e w' => e = .returned (.bool (p r)) ∧ Below w1.heap.size w1 w') :
    Calls Try.prog 31 #[ptr P.g, .int .i64 many, .func (.func 47) #[] #[cap]] w fun e w' => ∃ u, e = .returned u ∧ OwnI w' w.heap.size 3 u (poss t ((sel p rs).take many.toNat)) ∧ Below w.heap.size w w' := by
  obtain ⟨_, _, hc2⟩ := h.cells
  have hln : ((sel p rs).take many.toNat).length ≤ rs.length := Nat.le_trans (List.length_take_le' _ _) (sel_len p rs)
  have hel : ∀ i ∈ (sel p rs).take many.toNat, i < rs.length := fun i hi => sel_lt p rs i (List.mem_of_mem_take hi)
  have HP := Lib.hid (places_mine cap p P.v rs many w h.rows (by omega) (fun r hr => by obtain ⟨A, c, hv, _⟩ := h.data r hr; exact ⟨_, _, _, hv⟩) his)
  have HR := Lib.hid h
  clear h his
  generalize (sel p rs).take many.toNat = l at HP hln hel ⊢
  have HEL := Lib.hid hel
  clear hel
  go_enter Try.func31, Try.ntmps31
  go_wp2_with fail
  refine HP.out.mono ?_
  rintro e w2 ⟨u, rfl, ho, hb⟩
  obtain ⟨A, m, c, rfl⟩ := ho.form
  have hm : l.length = m := by have := ho.len; rw [nums_len] at this; exact this
  have HM := Lib.hid hm
  rw [hm] at hln
  have HO := Lib.hid ho
  have HB := Lib.hid hb
  have hmc : m ≤ 9223372036854775807 := by omega
  clear ho hb hc2 hm HP
  go_wp2
  go_loopw [18] (fun i wr => ∃ k : Nat, k ≤ m ∧ i = .int .i64 k ∧ OwnI wr w.heap.size 3 (.slice A m c) (shift t k (nums l)) ∧ Below w.heap.size w wr) (fun i _ => m - (intOf i).toNat)
  case atStart => exact ⟨0, by omega, rfl, by rw [shift_zero]; exact HO.out, HB.out⟩
  case round =>
    obtain ⟨k, hk, rfl, ho, hb⟩ := hrel
    replace HO := Lib.hid ho
    replace HB := Lib.hid hb
    clear ho hb
    by_cases hlt : k < m
    · obtain ⟨g, rfl, hg, hcc⟩ := HO.out.first (by omega)
      obtain ⟨i, hi⟩ : ∃ i, l[k]? = some i := ⟨_, List.getElem?_eq_getElem (by rw [HM.out]; exact hlt)⟩
      have hil := HEL.out i (List.mem_of_getElem? hi)
      have hz : (nums l)[k]? = some (i : Int) := by simp [nums, hi]
      have hset := shift_set t k _ _ hz
      obtain ⟨hcl, hfz⟩ := HO.out.cell (shift_at t k _ _ hz)
      obtain ⟨_, hct, _⟩ := (HR.out.below HB.out).cells
      have hw : IntKind.i64.wrap ((i : Int) + t) = (i : Int) + t := kwrap_is (by omega) (by omega)
      have hw2 : wrap64 ((i : Int) + t) = (i : Int) + t := IntWalk.wrap64_in _ (by omega)
      have HSET := Lib.hid hset
      clear hset hz hi
      generalize (i : Int) = z at *
      go_wp2
      go_region
      all_goals
        go_wp2
        go_roundw
        case rel => exact ⟨k + 1, by omega, by go_num, by rw [← HSET.out]; exact HO.out.set k _, (HB.out.setCell (p := ⟨g, k, none⟩) hg _).drew⟩
        case measure => simp [intOf]; omega
    · have HK := Lib.hid (show k = (nums l).length by rw [nums_len, HM.out]; omega)
      go_wp2
      go_ret
      refine ⟨_, rfl, ?_, HB.out⟩
      have h := HO.out
      rw [HK.out, shift_all] at h
      exact h

end Go.Proofs.Ytecmmihobojjpaa.RingPkg
