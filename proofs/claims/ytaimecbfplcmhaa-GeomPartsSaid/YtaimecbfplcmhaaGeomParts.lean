/-
  GeomParts: for any geometry the law answers true. No condition.
-/
import Derived.Test.YtaimecbfplcmhaaGeomKit
import Derived.Deep.DeepCutAuto
namespace Go.Proofs.Ytaimecbfplcmhaa.geomParts
open Go.ChangeShapes Go.WideShapes Go.ChangeAt Go.RowKit
set_option maxRecDepth 4000

section
variable {c l k p s U R L N : Int}

theorem geo_other {w : World} {b b' : Nat} (hne : b' < b) (h : Geo w b' c l k p s) (x0 x1 x2 x3 : Int) :
    Geo ((((w.setCell ⟨b, 0, none⟩ (.int .i64 x0)).setCell ⟨b, 1, none⟩ (.int .i64 x1)).setCell ⟨b, 2, none⟩ (.int .i64 x2)).setCell ⟨b, 3, none⟩ (.int .i64 x3)) b' c l k p s := by
  have one : ∀ (i j : Nat) (w : World) (v : Value), (w.setCell ⟨b, i, none⟩ v).cell? ⟨b', j, none⟩ = w.cell? ⟨b', j, none⟩ := fun i j w v => World.cell?_setCell_other w _ _ v (fun e => by cases e; omega)
  simpa [Geo, one] using h

theorem geo_keep_drew {w w' : World} {b : Nat} (h : Geo w b c l k p s) (hb : Below w.drew.heap.size w.drew w') : Geo w' b c l k p s := geo_keep (w := w.drew) h hb

theorem room_keep_drew {w w' : World} {b : Nat} (h : Room w b) (hb : Below w.drew.heap.size w.drew w') : Room w' b := room_keep (w := w.drew) h hb

theorem bad (h : ¬ Geom.ok c l k p s) (w : World) :
    Calls Try.prog 9 #[.agg #[.int .i64 c, .int .i64 l, .int .i64 k, .int .i64 p, .int .i64 s]] w fun e w' => e = .returned (.bool true) ∧ Below w.heap.size w w' := by
  have H := Lib.hid h
  clear h
  have HB := Lib.hid ((Below.refl w.heap.size w).alloc (Nat.le_refl _) (.cells #[.int .i64 c, .int .i64 l, .int .i64 k, .int .i64 p, .int .i64 s] 23))
  have HG := Lib.hid (geo_new w 23 c l k p s)
  go_enter Try.func9, Try.ntmps9
  go_wp2_with fail
  refine (awake_any _).mono ?_
  rintro e w1 ⟨rfl, hb⟩
  replace HB := Lib.hid (below_then HB.out hb)
  replace HG := Lib.hid (geo_keep HG.out hb)
  clear hb
  obtain ⟨G0, G1, G2, G3, G4⟩ := HG.out
  go_wp2_with fail
  clear G0 G1 G2 G3 G4
  refine (right_bad H.out _).mono ?_
  rintro e w2 ⟨rfl, hb⟩
  replace HB := Lib.hid (below_then HB.out hb)
  replace HG := Lib.hid (geo_keep HG.out hb)
  clear hb
  obtain ⟨G0, G1, G2, G3, G4⟩ := HG.out
  go_wp2_with fail
  clear G0 G1 G2 G3 G4
  refine (Units_bad H.out _).mono ?_
  rintro e w3 ⟨rfl, hb⟩
  replace HB := Lib.hid (below_then HB.out hb)
  replace HG := Lib.hid (geo_keep HG.out hb)
  clear hb
  obtain ⟨G0, G1, G2, G3, G4⟩ := HG.out
  go_wp2_with fail
  clear G0 G1 G2 G3 G4
  refine (Line_bad H.out _).mono ?_
  rintro e w4 ⟨rfl, hb⟩
  replace HB := Lib.hid (below_then HB.out hb)
  replace HG := Lib.hid (geo_keep HG.out hb)
  clear hb
  obtain ⟨G0, G1, G2, G3, G4⟩ := HG.out
  go_wp2_with fail
  clear G0 G1 G2 G3 G4
  refine (All_bad H.out _).mono ?_
  rintro e w5 ⟨rfl, hb⟩
  replace HB := Lib.hid (below_then HB.out hb)
  replace HG := Lib.hid (geo_keep HG.out hb)
  clear hb
  go_wp2
  go_ret
  exact ⟨rfl, HB.out⟩

set_option maxHeartbeats 6000000 in
theorem good (h : Geom.Sizes c l k p s U R L N) (w : World) :
    Calls Try.prog 9 #[.agg #[.int .i64 c, .int .i64 l, .int .i64 k, .int .i64 p, .int .i64 s]] w fun e w' => e = .returned (.bool true) ∧ Below w.heap.size w w' := by
  have H := Lib.hid h
  have hw1 : IntKind.i64.wrap (IntKind.i64.wrap (U * p) * s) = L := by
    have e : U * p * s = L := by rw [h.l, h.r, Int.mul_comm U p, Int.mul_assoc]
    have hm := h.may
    unfold Geom.ok at hm
    have hu := Geom.mul_bd h.u0 h.u1 hm.2.2.2.2.2.2.1 hm.2.2.2.2.2.2.2.1
    have l0 := h.l0
    have l1 := h.l1
    rw [kwrap_is (n := U * p) (by omega) (by omega), e, kwrap_is (n := L) (by omega) (by omega)]
  have hw2 : IntKind.i64.wrap (L * k) = N := by
    have n0 := h.n0
    have n1 := h.n1
    rw [Int.mul_comm L k, ← h.n, kwrap_is (n := N) (by omega) (by omega)]
  have HW1 := Lib.hid hw1
  have HW2 := Lib.hid hw2
  clear hw1 hw2
  have hl0 : 0 < L := by have := h.l0; omega
  have hn0 := h.n0
  have hn1 := h.n1
  have hof := of_in h (N - 1) (by omega) (by omega)
  generalize (N - 1) % R / s = x0 at hof
  generalize (N - 1) / L = x1 at hof
  generalize (N - 1) % L / R = x2 at hof
  generalize (N - 1) % s = x3 at hof
  have hwm : IntKind.i64.wrap (N - 1) = N - 1 := kwrap_is (by omega) (by omega)
  rw [← hwm] at hof
  clear hwm
  have HO := Lib.hid hof
  have hout := of_out h N (Or.inr (by omega))
  have HO2 := Lib.hid hout
  clear h hof hout
  have HB := Lib.hid ((Below.refl w.heap.size w).alloc (Nat.le_refl _) (.cells #[.int .i64 c, .int .i64 l, .int .i64 k, .int .i64 p, .int .i64 s] 23))
  have HG := Lib.hid (geo_new w 23 c l k p s)
  go_enter Try.func9, Try.ntmps9
  go_wp2_with fail
  refine (awake_any _).mono ?_
  rintro e w1 ⟨rfl, hb⟩
  replace HB := Lib.hid (below_then HB.out hb)
  replace HG := Lib.hid (geo_keep HG.out hb)
  clear hb
  obtain ⟨G0, G1, G2, G3, G4⟩ := HG.out
  go_wp2_with fail
  clear G0 G1 G2 G3 G4
  refine (right_ok H.out.may _).mono ?_
  rintro e w2 ⟨rfl, hb⟩
  replace HB := Lib.hid (below_then HB.out hb)
  replace HG := Lib.hid (geo_keep HG.out hb)
  clear hb
  obtain ⟨G0, G1, G2, G3, G4⟩ := HG.out
  go_wp2_with fail
  clear G0 G1 G2 G3 G4
  refine (Line_ok H.out _).mono ?_
  rintro e w3 ⟨rfl, hb⟩
  replace HB := Lib.hid (below_then HB.out hb)
  replace HG := Lib.hid (geo_keep HG.out hb)
  clear hb
  go_upto_region 6 with fail
  go_cut [7] (fun v wx => v = .int .i64 2 ∧ Geo wx w.heap.size c l k p s ∧ Below w.heap.size w wx)
  case first =>
    clear hl0 HW1 HW2 hn0 hn1 HO
    go_region_held (fun w' => w'.cell? ⟨w.heap.size, 0, none⟩ = some (.int .i64 c) ∧ w'.cell? ⟨w.heap.size, 1, none⟩ = some (.int .i64 l) ∧ w'.cell? ⟨w.heap.size, 2, none⟩ = some (.int .i64 k) ∧ w'.cell? ⟨w.heap.size, 3, none⟩ = some (.int .i64 p) ∧ w'.cell? ⟨w.heap.size, 4, none⟩ = some (.int .i64 s)) (first | exact HG.out | exact geo_keep HG.out ((Below.refl _ _).alloc (Nat.le_refl _) _) | exact geo_keep HG.out ((Below.refl _ _).alloc (Nat.le_refl _) _).drew | exact geo_other hQ HG.out _ _ _ _)
      (first
        | (go_at_call 17; refine (All_ok H.out _).mono ?_; rintro e w2 ⟨rfl, hb⟩; replace HR := Lib.hid (room_keep HR.out hb); replace HB := Lib.hid (below_then HB.out hb); replace HG := Lib.hid (geo_keep HG.out hb); clear hb F0 F1 F2 F3 Z0 Z1 Z2 Z3; obtain ⟨⟨F0, F1, F2, F3⟩, Z0, Z1, Z2, Z3⟩ := HR.out)
        | (go_at_call 17; refine (All_ok H.out _).mono ?_; rintro e w2 ⟨rfl, hb⟩; replace HB := Lib.hid (below_then HB.out hb); replace HG := Lib.hid (geo_keep HG.out hb); clear hb)
        | (go_at_call 17; refine (All_ok H.out _).mono ?_; rintro e w2 ⟨rfl, hb⟩; replace HB := Lib.hid (below_then HB.out.drew hb); replace HG := Lib.hid (geo_keep_drew HG.out hb); clear hb)
        | (go_at_call 17; refine (All_ok H.out _).mono ?_; rintro e w2 ⟨rfl, hb⟩; have hQ := World.block_lt_of_cell? _ _ HG.out.1; have HR := Lib.hid (room_keep (room_new _ _ rfl _) hb); replace HB := Lib.hid (below_then (HB.out.alloc HB.out.size _) hb); replace HG := Lib.hid (geo_keep (geo_keep HG.out ((Below.refl _ _).alloc (Nat.le_refl _) _)) hb); clear hb; obtain ⟨⟨F0, F1, F2, F3⟩, Z0, Z1, Z2, Z3⟩ := HR.out)
        | (go_at_call 17; refine (All_ok H.out _).mono ?_; rintro e w2 ⟨rfl, hb⟩; have hQ := World.block_lt_of_cell? _ _ HG.out.1; have HR := Lib.hid (room_keep_drew (room_new _ _ rfl _) hb); replace HB := Lib.hid (below_then (HB.out.alloc HB.out.size _).drew hb); replace HG := Lib.hid (geo_keep_drew (geo_keep HG.out ((Below.refl _ _).alloc (Nat.le_refl _) _)) hb); clear hb; obtain ⟨⟨F0, F1, F2, F3⟩, Z0, Z1, Z2, Z3⟩ := HR.out)
        | (go_at_call 19; refine (HO2.out _).mono ?_; rintro e w2 ⟨rfl, hb⟩; replace HR := Lib.hid (room_keep HR.out hb); replace HB := Lib.hid (below_then HB.out hb); replace HG := Lib.hid (geo_keep HG.out hb); clear hb F0 F1 F2 F3 Z0 Z1 Z2 Z3; obtain ⟨⟨F0, F1, F2, F3⟩, Z0, Z1, Z2, Z3⟩ := HR.out)
        | (go_at_call 19; refine (HO2.out _).mono ?_; rintro e w2 ⟨rfl, hb⟩; replace HB := Lib.hid (below_then HB.out hb); replace HG := Lib.hid (geo_keep HG.out hb); clear hb)
        | (go_at_call 19; refine (HO2.out _).mono ?_; rintro e w2 ⟨rfl, hb⟩; replace HB := Lib.hid (below_then HB.out.drew hb); replace HG := Lib.hid (geo_keep_drew HG.out hb); clear hb)
        | (go_at_call 19; refine (HO2.out _).mono ?_; rintro e w2 ⟨rfl, hb⟩; have hQ := World.block_lt_of_cell? _ _ HG.out.1; have HR := Lib.hid (room_keep (room_new _ _ rfl _) hb); replace HB := Lib.hid (below_then (HB.out.alloc HB.out.size _) hb); replace HG := Lib.hid (geo_keep (geo_keep HG.out ((Below.refl _ _).alloc (Nat.le_refl _) _)) hb); clear hb; obtain ⟨⟨F0, F1, F2, F3⟩, Z0, Z1, Z2, Z3⟩ := HR.out)
        | (go_at_call 19; refine (HO2.out _).mono ?_; rintro e w2 ⟨rfl, hb⟩; have hQ := World.block_lt_of_cell? _ _ HG.out.1; have HR := Lib.hid (room_keep_drew (room_new _ _ rfl _) hb); replace HB := Lib.hid (below_then (HB.out.alloc HB.out.size _).drew hb); replace HG := Lib.hid (geo_keep_drew (geo_keep HG.out ((Below.refl _ _).alloc (Nat.le_refl _) _)) hb); clear hb; obtain ⟨⟨F0, F1, F2, F3⟩, Z0, Z1, Z2, Z3⟩ := HR.out))
    all_goals (go_wp2_with fail; go_meet; first | exact ⟨rfl, geo_keep HG.out ((Below.refl _ _).alloc (Nat.le_refl _) _), HB.out.alloc HB.out.size _⟩ | exact ⟨rfl, geo_other hQ HG.out _ _ _ _, below_set HB.out (Nat.le_of_lt hQ) _ _ _ _⟩)
  case rest =>
    obtain ⟨rfl, hg, hb⟩ := hcut
    replace HB := Lib.hid hb
    replace HG := Lib.hid hg
    clear hg hb HO2
    go_upto_region 7 with fail
    go_cut [9] (fun v wx => v = .int .i64 0 ∧ Geo wx w.heap.size c l k p s ∧ Below w.heap.size w wx)
    case first =>
      clear hl0 HW1 HW2
      go_region_held (fun w' => w'.cell? ⟨w.heap.size, 0, none⟩ = some (.int .i64 c) ∧ w'.cell? ⟨w.heap.size, 1, none⟩ = some (.int .i64 l) ∧ w'.cell? ⟨w.heap.size, 2, none⟩ = some (.int .i64 k) ∧ w'.cell? ⟨w.heap.size, 3, none⟩ = some (.int .i64 p) ∧ w'.cell? ⟨w.heap.size, 4, none⟩ = some (.int .i64 s)) (first | exact HG.out | exact geo_keep HG.out ((Below.refl _ _).alloc (Nat.le_refl _) _) | exact geo_keep HG.out ((Below.refl _ _).alloc (Nat.le_refl _) _).drew | exact geo_other hQ HG.out _ _ _ _)
        (first
          | (go_at_call 17; refine (All_ok H.out _).mono ?_; rintro e w2 ⟨rfl, hb⟩; replace HR := Lib.hid (room_keep HR.out hb); replace HB := Lib.hid (below_then HB.out hb); replace HG := Lib.hid (geo_keep HG.out hb); clear hb F0 F1 F2 F3 Z0 Z1 Z2 Z3; obtain ⟨⟨F0, F1, F2, F3⟩, Z0, Z1, Z2, Z3⟩ := HR.out)
          | (go_at_call 17; refine (All_ok H.out _).mono ?_; rintro e w2 ⟨rfl, hb⟩; replace HB := Lib.hid (below_then HB.out hb); replace HG := Lib.hid (geo_keep HG.out hb); clear hb)
          | (go_at_call 17; refine (All_ok H.out _).mono ?_; rintro e w2 ⟨rfl, hb⟩; replace HB := Lib.hid (below_then HB.out.drew hb); replace HG := Lib.hid (geo_keep_drew HG.out hb); clear hb)
          | (go_at_call 17; refine (All_ok H.out _).mono ?_; rintro e w2 ⟨rfl, hb⟩; have hQ := World.block_lt_of_cell? _ _ HG.out.1; have HR := Lib.hid (room_keep (room_new _ _ rfl _) hb); replace HB := Lib.hid (below_then (HB.out.alloc HB.out.size _) hb); replace HG := Lib.hid (geo_keep (geo_keep HG.out ((Below.refl _ _).alloc (Nat.le_refl _) _)) hb); clear hb; obtain ⟨⟨F0, F1, F2, F3⟩, Z0, Z1, Z2, Z3⟩ := HR.out)
          | (go_at_call 17; refine (All_ok H.out _).mono ?_; rintro e w2 ⟨rfl, hb⟩; have hQ := World.block_lt_of_cell? _ _ HG.out.1; have HR := Lib.hid (room_keep_drew (room_new _ _ rfl _) hb); replace HB := Lib.hid (below_then (HB.out.alloc HB.out.size _).drew hb); replace HG := Lib.hid (geo_keep_drew (geo_keep HG.out ((Below.refl _ _).alloc (Nat.le_refl _) _)) hb); clear hb; obtain ⟨⟨F0, F1, F2, F3⟩, Z0, Z1, Z2, Z3⟩ := HR.out)
          | (go_at_call 19; refine (HO.out _).mono ?_; rintro e w2 ⟨rfl, hb⟩; replace HR := Lib.hid (room_keep HR.out hb); replace HB := Lib.hid (below_then HB.out hb); replace HG := Lib.hid (geo_keep HG.out hb); clear hb F0 F1 F2 F3 Z0 Z1 Z2 Z3; obtain ⟨⟨F0, F1, F2, F3⟩, Z0, Z1, Z2, Z3⟩ := HR.out)
          | (go_at_call 19; refine (HO.out _).mono ?_; rintro e w2 ⟨rfl, hb⟩; replace HB := Lib.hid (below_then HB.out hb); replace HG := Lib.hid (geo_keep HG.out hb); clear hb)
          | (go_at_call 19; refine (HO.out _).mono ?_; rintro e w2 ⟨rfl, hb⟩; replace HB := Lib.hid (below_then HB.out.drew hb); replace HG := Lib.hid (geo_keep_drew HG.out hb); clear hb)
          | (go_at_call 19; refine (HO.out _).mono ?_; rintro e w2 ⟨rfl, hb⟩; have hQ := World.block_lt_of_cell? _ _ HG.out.1; have HR := Lib.hid (room_keep (room_new _ _ rfl _) hb); replace HB := Lib.hid (below_then (HB.out.alloc HB.out.size _) hb); replace HG := Lib.hid (geo_keep (geo_keep HG.out ((Below.refl _ _).alloc (Nat.le_refl _) _)) hb); clear hb; obtain ⟨⟨F0, F1, F2, F3⟩, Z0, Z1, Z2, Z3⟩ := HR.out)
          | (go_at_call 19; refine (HO.out _).mono ?_; rintro e w2 ⟨rfl, hb⟩; have hQ := World.block_lt_of_cell? _ _ HG.out.1; have HR := Lib.hid (room_keep_drew (room_new _ _ rfl _) hb); replace HB := Lib.hid (below_then (HB.out.alloc HB.out.size _).drew hb); replace HG := Lib.hid (geo_keep_drew (geo_keep HG.out ((Below.refl _ _).alloc (Nat.le_refl _) _)) hb); clear hb; obtain ⟨⟨F0, F1, F2, F3⟩, Z0, Z1, Z2, Z3⟩ := HR.out))
      all_goals (go_wp2_with fail; go_meet; first | exact ⟨rfl, geo_keep HG.out ((Below.refl _ _).alloc (Nat.le_refl _) _), HB.out.alloc HB.out.size _⟩ | exact ⟨rfl, geo_other hQ HG.out _ _ _ _, below_set HB.out (Nat.le_of_lt hQ) _ _ _ _⟩)
    case rest =>
      obtain ⟨rfl, hg, hb⟩ := hcut
      replace HB := Lib.hid hb.drew
      replace HG := Lib.hid hg
      clear hg hb HO
      have hw1 := HW1.out
      have hw2 := HW2.out
      go_wp2
      go_region_held (fun w' => w'.cell? ⟨w.heap.size, 0, none⟩ = some (.int .i64 c) ∧ w'.cell? ⟨w.heap.size, 1, none⟩ = some (.int .i64 l) ∧ w'.cell? ⟨w.heap.size, 2, none⟩ = some (.int .i64 k) ∧ w'.cell? ⟨w.heap.size, 3, none⟩ = some (.int .i64 p) ∧ w'.cell? ⟨w.heap.size, 4, none⟩ = some (.int .i64 s)) (first | exact HG.out | exact geo_keep (by assumption) hb)
        (first
          | (go_at_call 13; refine (Units_ok H.out _).mono ?_; rintro e w2 ⟨rfl, hb⟩; replace HB := Lib.hid (below_then HB.out hb))
          | (go_at_call 17; refine (All_ok H.out _).mono ?_; rintro e w2 ⟨rfl, hb⟩; replace HB := Lib.hid (below_then HB.out hb)))
      rename_i hH
      clear hH
      go_wp2
      go_ret
      exact ⟨rfl, HB.out⟩
end

theorem walk (c l k p s : Int) (w : World) :
    Calls Try.prog 9 #[.agg #[.int .i64 c, .int .i64 l, .int .i64 k, .int .i64 p, .int .i64 s]] w fun e w' => e = .returned (.bool true) ∧ Below w.heap.size w w' := by
  rcases Decidable.em (Geom.ok c l k p s) with h | h
  · exact good (Geom.sizes h) w
  · exact bad h w

theorem own : ownKnob Try.prog.godebug = none := by kernel_rfl
theorem laid : laidOutB Try.prog = true := by kernel_rfl

set_option maxRecDepth 100000 in
theorem lifted (os : Os) (started : os.Started) (H : Type) (enc : TypeId × Value → H) :
    ReturnsInHanded {} Try.checked os 9 .any (Rows.geomPartsSpec.pre6 enc Try.prog Try.f9 Rows.geomPartsRow.domain false) (Rows.geomPartsSpec.post enc Try.prog Try.f9 false true false false) := by
  refine returnsInHanded_of_change (C := Try.checked) own started (by kernel_rfl) Try.func9
    (ChangeSpec.witness6 (enc := enc) (C := Try.checked) false ⟨#[], #[.agg #[.int .i64 0, .int .i64 0, .int .i64 0, .int .i64 0, .int .i64 0]], []⟩ 8 (by kernel_rfl) (by kernel_rfl) (by kernel_rfl) (by kernel_rfl)) ?_
  intro W base args ds gs before hval0 hW _ _
  have hval : ∀ (j : Nat) t v, Try.f9.params[j]? = some t → args[j]? = some v → Value.okWide Try.prog W .any base t v := hval0
  have hW' := hW
  obtain ⟨p, q, hA0, hV, rfl, hfz, hnd⟩ := hW
  have hA : DataW.TrodAll enc Try.prog W 0 (fun _ => true) true Try.f9.params.toList args.toList ds p := hA0
  rw [Try.params9] at hA hval
  obtain ⟨v0, d0, rfl, rfl, h0⟩ := trodAll_one hA
  obtain ⟨c0, l0, k0, q0, s0, rfl⟩ := open_geo Try.underlying23 rfl (by kernel_rfl) (by kernel_rfl) (hval 0 23 v0 rfl rfl) h0
  refine (walk c0 l0 k0 q0 s0 W ).mono fun e W' ⟨he, hb⟩ => ?_
  subst he
  exact ⟨_, rfl, Law.post laid (by kernel_rfl) (by kernel_rfl) Try.underlying4 rfl hW' rfl hb⟩

theorem proved : Rows.GeomPartsSaid :=
  OpenClaim.holds_of_wide 9 Try.f9 rfl rfl rfl rfl rfl rfl rfl ⟨rfl, rfl, rfl, rfl, rfl⟩ rfl rfl rfl rfl rfl (by kernel_rfl) Try.func9 (by kernel_rfl)
    (of_decide_eq_true (by kernel_rfl)) (by unfold Func.isWrapper; first | (rw [if_pos (by decide +kernel)]; kernel_rfl) | (rw [if_neg (by decide +kernel)]; exact ⟨rfl, rfl⟩))
    (fun os started H enc _ => lifted os started H enc)

end Go.Proofs.Ytaimecbfplcmhaa.geomParts
