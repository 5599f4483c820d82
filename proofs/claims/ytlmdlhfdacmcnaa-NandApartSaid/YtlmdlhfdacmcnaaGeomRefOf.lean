/-
  The document's answer for layer 3: the place of an address, by going through all places.
-/
import Derived.Test.YtlmdlhfdacmcnaaGeomRef
namespace Go.Proofs.Ytlmdlhfdacmcnaa
open Go.RowKit
set_option maxRecDepth 4000

namespace Geom
variable {p s U R L b g u t z : Int}
theorem nextB (h : L = p * R) (hz : z = b * L + g * R) (hg : g = p) : z = (b + 1) * L := by
  rw [hz, hg, Int.add_mul, Int.one_mul, ← h]
theorem nextG (h : R = U * s) (hz : z = b * L + g * R + u * s) (hu : u = U) : z = b * L + (g + 1) * R := by
  rw [hz, hu, Int.add_mul, Int.one_mul, ← h]
  omega
theorem nextU (hz : z = b * L + g * R + u * s + t) (ht : t = s) : z = b * L + g * R + (u + 1) * s := by
  rw [hz, ht, Int.add_mul, Int.one_mul]
  omega
end Geom

section
variable {c l k p s U R L N : Int}

/-- What the walk through the places keeps: the geometry, the room for the answer, all that was there. -/
def Kept (w wr : World) (c l k p s : Int) : Prop := Geo wr w.heap.size c l k p s ∧ Room wr (w.heap.size + 1) ∧ Below w.heap.size w wr

theorem kept_keep {w w1 w2 : World} (h : Kept w w1 c l k p s) (hb : Below w1.heap.size w1 w2) : Kept w w2 c l k p s :=
  ⟨geo_keep h.1 hb, room_keep h.2.1 hb, below_then h.2.2 hb⟩

theorem rof_bad (h : ¬ Geom.ok c l k p s) (a : Int) (w : World) :
    Calls Try.prog 66 #[.agg #[.int .i64 c, .int .i64 l, .int .i64 k, .int .i64 p, .int .i64 s], .int .i64 a] w fun e w' => e = .returned (.tuple #[.agg #[.int .i64 0, .int .i64 0, .int .i64 0, .int .i64 0], .int .i64 1]) ∧ Below w.heap.size w w' := by
  have H := Lib.hid h
  clear h
  have hb0 := ((Below.refl w.heap.size w).alloc (Nat.le_refl _) (.cells #[.int .i64 c, .int .i64 l, .int .i64 k, .int .i64 p, .int .i64 s] 23))
  have HK := Lib.hid (show Kept w _ c l k p s from ⟨geo_keep (geo_new w 23 c l k p s) ((Below.refl _ _).alloc (Nat.le_refl _) (.cells #[.int .i64 0, .int .i64 0, .int .i64 0, .int .i64 0] 65)), room_new (w.alloc (.cells #[.int .i64 c, .int .i64 l, .int .i64 k, .int .i64 p, .int .i64 s] 23)) (w.heap.size + 1) (by simp) 65, hb0.alloc hb0.size (.cells #[.int .i64 0, .int .i64 0, .int .i64 0, .int .i64 0] 65)⟩)
  clear hb0
  go_enter Try.func66, Try.ntmps66
  go_wp2_with fail
  refine (rright_bad H.out _).mono ?_
  rintro e w2 ⟨rfl, hb⟩
  replace HK := Lib.hid (kept_keep HK.out hb)
  clear hb
  obtain ⟨⟨F0, F1, F2, F3⟩, Z0, Z1, Z2, Z3⟩ := HK.out.2.1
  go_wp2
  clear F0 F1 F2 F3 Z0 Z1 Z2 Z3
  have hP := pla_set HK.out.2.1.1 0 0 0 0
  have HX := Lib.hid (below_set HK.out.2.2 (Nat.le_succ _) 0 0 0 0)
  clear HK
  generalize World.setCell _ _ _ = X at hP HX ⊢
  obtain ⟨P0, P1, P2, P3⟩ := hP
  try simp only [Exit.inBlock, Exit.then]
  refine bodyPost_ret (v := .tuple #[.agg #[.int .i64 0, .int .i64 0, .int .i64 0, .int .i64 0], .int .i64 1]) ?_ rfl ⟨rfl, HX.out⟩
  simp [results, Try.results66, go_sem, P0, P1, P2, P3]

set_option maxHeartbeats 1000000 in
theorem rof_any (h : Geom.Sizes c l k p s U R L N) (a y0 y1 y2 y3 er : Int) (hin : ∀ u b g t, Geom.there U k p s u b g t → a = b * L + g * R + u * s + t → y0 = u ∧ y1 = b ∧ y2 = g ∧ y3 = t ∧ er = 0) (hout : a < 0 ∨ N ≤ a → y0 = 0 ∧ y1 = 0 ∧ y2 = 0 ∧ y3 = 0 ∧ er = 2) (w : World) :
    Calls Try.prog 66 #[.agg #[.int .i64 c, .int .i64 l, .int .i64 k, .int .i64 p, .int .i64 s], .int .i64 a] w fun e w' => e = .returned (.tuple #[.agg #[.int .i64 y0, .int .i64 y1, .int .i64 y2, .int .i64 y3], .int .i64 er]) ∧ Below w.heap.size w w' := by
  have HIN := Lib.hid hin
  have HOUT := Lib.hid hout
  have k64 : k ≤ 64 := h.may.2.2.2.2.2.1
  have p32 : p ≤ 32 := h.may.2.2.2.2.2.2.2.1
  have s4 : s ≤ 4 := h.may.2.2.2.2.2.2.2.2.2
  have U8 : U ≤ 8 := h.u1
  clear hin hout
  have H := Lib.hid h
  clear h
  have hb0 := ((Below.refl w.heap.size w).alloc (Nat.le_refl _) (.cells #[.int .i64 c, .int .i64 l, .int .i64 k, .int .i64 p, .int .i64 s] 23))
  have HK := Lib.hid (show Kept w _ c l k p s from ⟨geo_keep (geo_new w 23 c l k p s) ((Below.refl _ _).alloc (Nat.le_refl _) (.cells #[.int .i64 0, .int .i64 0, .int .i64 0, .int .i64 0] 65)), room_new (w.alloc (.cells #[.int .i64 c, .int .i64 l, .int .i64 k, .int .i64 p, .int .i64 s] 23)) (w.heap.size + 1) (by simp) 65, hb0.alloc hb0.size (.cells #[.int .i64 0, .int .i64 0, .int .i64 0, .int .i64 0] 65)⟩)
  clear hb0
  go_enter Try.func66, Try.ntmps66
  go_wp2_with fail
  refine (rright_ok H.out.may _).mono ?_
  rintro e w2 ⟨rfl, hb⟩
  replace HK := Lib.hid (kept_keep HK.out hb)
  clear hb
  go_wp2
  go_loopw [6, 7] (fun x y wr => ∃ b z : Int, x = .int .i64 z ∧ y = .int .i64 b ∧ 0 ≤ b ∧ b ≤ k ∧ Hid (z = b * L) ∧ (a < 0 ∨ z ≤ a) ∧ Kept w wr c l k p s) (fun _ y _ => (k - intOf y).toNat)
  case atStart => exact ⟨0, 0, rfl, rfl, by omega, by have := H.out.may; unfold Geom.ok at this; omega, Lib.hid (by omega), by omega, HK.out⟩
  case round =>
    clear HK
    obtain ⟨b, z, rfl, rfl, b0, b1, hz, ha, hk⟩ := hrel
    have HK := Lib.hid hk
    clear hk
    obtain ⟨G0, G1, G2, G3, G4⟩ := HK.out.1
    by_cases hb : b < k
    · go_wp2
      clear G0 G1 G2 G3 G4
      go_loopw [6, 8] (fun x y wr => ∃ g z : Int, x = .int .i64 z ∧ y = .int .i64 g ∧ 0 ≤ g ∧ g ≤ p ∧ Hid (z = b * L + g * R) ∧ (a < 0 ∨ z ≤ a) ∧ Kept w wr c l k p s) (fun _ y _ => (p - intOf y).toNat)
      case atStart => exact ⟨0, z, rfl, rfl, by omega, by have := H.out.may; unfold Geom.ok at this; omega, Lib.hid (by have := hz.out; omega), ha, HK.out⟩
      case round =>
        clear HK ha hz
        obtain ⟨g, z, rfl, rfl, g0, g1, hz, ha, hk⟩ := hrel
        have HK := Lib.hid hk
        clear hk
        obtain ⟨G0, G1, G2, G3, G4⟩ := HK.out.1
        by_cases hg : g < p
        · go_wp2
          clear G0 G1 G2 G3 G4
          go_loopw [6, 9] (fun x y wr => ∃ u z : Int, x = .int .i64 z ∧ y = .int .i64 u ∧ 0 ≤ u ∧ u ≤ U ∧ Hid (z = b * L + g * R + u * s) ∧ (a < 0 ∨ z ≤ a) ∧ Kept w wr c l k p s) (fun _ y _ => (U - intOf y).toNat)
          case atStart => exact ⟨0, z, rfl, rfl, by omega, by have := H.out.u0; omega, Lib.hid (by have := hz.out; omega), ha, HK.out⟩
          case round =>
            clear HK ha hz
            obtain ⟨u, z, rfl, rfl, u0, u1, hz, ha, hk⟩ := hrel
            have HK := Lib.hid hk
            clear hk
            obtain ⟨G0, G1, G2, G3, G4⟩ := HK.out.1
            go_wp2_with fail
            clear G0 G1 G2 G3 G4
            refine (runits_ok H.out _).mono ?_
            rintro e w3 ⟨rfl, hbb⟩
            replace HK := Lib.hid (kept_keep HK.out hbb)
            clear hbb
            by_cases hu : u < U
            · go_wp2
              obtain ⟨G0, G1, G2, G3, G4⟩ := HK.out.1
              go_loop [6, 10] (fun x y => ∃ t z : Int, x = .int .i64 z ∧ y = .int .i64 t ∧ 0 ≤ t ∧ t ≤ s ∧ Hid (z = b * L + g * R + u * s + t) ∧ (a < 0 ∨ z ≤ a)) (fun _ y => (s - intOf y).toNat)
              case atStart => exact ⟨0, z, rfl, rfl, by omega, by have := H.out.may; unfold Geom.ok at this; omega, Lib.hid (by have := hz.out; omega), ha⟩
              case round =>
                clear ha hz
                obtain ⟨t, z, rfl, rfl, t0, t1, hz, ha⟩ := hrel
                by_cases ht : t < s
                · have hth : Geom.there U k p s u b g t := ⟨u0, hu, b0, hb, g0, hg, t0, ht⟩
                  have hbd := Geom.parts_bd H.out hth
                  have hz0 : 0 ≤ z := by have := hz.out; omega
                  have hz1 : z ≤ 65536 := by have := hz.out; omega
                  clear hbd
                  have HT := Lib.hid hth
                  clear hth
                  by_cases hza : z = a
                  · have HA := Lib.hid (show a = b * L + g * R + u * s + t from hza.symm.trans hz.out)
                    have HE := Lib.hid (HIN.out u b g t HT.out HA.out)
                    clear HA HT hz
                    obtain ⟨⟨F0, F1, F2, F3⟩, Z0, Z1, Z2, Z3⟩ := HK.out.2.1
                    go_wp2
                    clear F0 F1 F2 F3 Z0 Z1 Z2 Z3
                    have hP := pla_set HK.out.2.1.1 u b g t
                    have HX := Lib.hid (below_set HK.out.2.2 (Nat.le_succ _) u b g t)
                    clear HK
                    generalize World.setCell _ _ _ = X at hP HX ⊢
                    obtain ⟨P0, P1, P2, P3⟩ := hP
                    try simp only [Exit.inBlock, Exit.then]
                    refine bodyPost_ret (v := .tuple #[.agg #[.int .i64 u, .int .i64 b, .int .i64 g, .int .i64 t], .int .i64 0]) ?_ rfl ⟨by obtain ⟨e0, e1, e2, e3, e4⟩ := HE.out; rw [e0, e1, e2, e3, e4], HX.out⟩
                    simp [results, Try.results66, go_sem, P0, P1, P2, P3]
                  · go_wp2
                    go_round
                    case rel => exact ⟨t + 1, z + 1, by go_num, by go_num, by omega, by omega, Lib.hid (by have := hz.out; omega), by omega⟩
                    case measure => simp [intOf]; omega
                · go_wp2
                  go_roundw
                  case rel => exact ⟨u + 1, z, rfl, by go_num, by omega, by omega, Lib.hid (Geom.nextU hz.out (by omega)), ha, HK.out⟩
                  case measure => simp [intOf]; omega
            · go_wp2
              go_roundw
              case rel => exact ⟨g + 1, z, rfl, by go_num, by omega, by omega, Lib.hid (Geom.nextG H.out.r hz.out (by omega)), ha, HK.out⟩
              case measure => simp [intOf]; omega
        · go_wp2
          go_roundw
          case rel => exact ⟨b + 1, z, rfl, by go_num, by omega, by omega, Lib.hid (Geom.nextB H.out.l hz.out (by omega)), ha, HK.out⟩
          case measure => simp [intOf]; omega
    · have hbk : b = k := by omega
      have hzn : z = N := by rw [hz.out, hbk, ← H.out.n]
      have HE := Lib.hid (HOUT.out (by omega))
      clear hbk hzn
      obtain ⟨⟨F0, F1, F2, F3⟩, Z0, Z1, Z2, Z3⟩ := HK.out.2.1
      go_wp2
      clear F0 F1 F2 F3 Z0 Z1 Z2 Z3
      have hP := pla_set HK.out.2.1.1 0 0 0 0
      have HX := Lib.hid (below_set HK.out.2.2 (Nat.le_succ _) 0 0 0 0)
      clear HK
      generalize World.setCell _ _ _ = X at hP HX ⊢
      obtain ⟨P0, P1, P2, P3⟩ := hP
      try simp only [Exit.inBlock, Exit.then]
      refine bodyPost_ret (v := .tuple #[.agg #[.int .i64 0, .int .i64 0, .int .i64 0, .int .i64 0], .int .i64 2]) ?_ rfl ⟨by obtain ⟨e0, e1, e2, e3, e4⟩ := HE.out; rw [e0, e1, e2, e3, e4], HX.out⟩
      simp [results, Try.results66, go_sem, P0, P1, P2, P3]

end
end Go.Proofs.Ytlmdlhfdacmcnaa
