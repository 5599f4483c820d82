/-
  GeomChans: for any geometry the law answers true. No condition.
-/
import Derived.Test.YtaimecbfplcmhaaGeomKit
import Derived.Test.YtaimecbfplcmhaaInts
import Derived.BigQuiet
namespace Go.Proofs.Ytaimecbfplcmhaa.geomChans
open Go.ChangeShapes Go.WideShapes Go.ChangeAt Go.RowKit
set_option maxRecDepth 4000

theorem info64 : intInfo Try.prog 3 := info_parts (by kernel_rfl)

/-- How many of the first i units have channel j. -/
def cnt (c : Nat) : Nat → Nat → Int
  | 0, _ => 0
  | i + 1, j => cnt c i j + if i % c = j then 1 else 0

theorem cnt_bd (c : Nat) : ∀ i j, 0 ≤ cnt c i j ∧ cnt c i j ≤ i
  | 0, _ => by simp [cnt]
  | i + 1, j => by
    have := cnt_bd c i j
    simp only [cnt]
    split <;> omega

theorem cnt_all {c l j : Nat} (h0 : 1 ≤ c) (h1 : c ≤ 4) (h2 : 1 ≤ l) (h3 : l ≤ 2) (hj : j < c) : cnt c (c * l) j = l := by
  have h : ∀ (c : Fin 5) (l : Fin 3) (j : Fin 4), 1 ≤ c.val → 1 ≤ l.val → j.val < c.val → cnt c.val (c.val * l.val) j.val = (l.val : Int) := by decide
  exact h ⟨c, by omega⟩ ⟨l, by omega⟩ ⟨j, by omega⟩ h0 h2 hj

/-- The channel of the unit ahead of unit i; -1 ahead of the first. -/
def lst (c i : Nat) : Int := if i = 0 then -1 else (((i - 1) % c : Nat) : Int)

theorem lst_ne {c i : Nat} (hc : 2 ≤ c) (hc4 : c ≤ 4) (hi : i < 8) : ¬ ((i % c : Nat) : Int) = lst c i := by
  have h : ∀ c < 5, ∀ i < 8, 2 ≤ c → ¬ ((i % c : Nat) : Int) = lst c i := by decide
  exact h c (by omega) i (by omega) hc

theorem cnt_step {c i x : Nat} (hx : x = i % c) (j : Nat) : (if j = x then cnt c i x + 1 else cnt c i j) = cnt c (i + 1) j := by
  simp only [cnt]
  by_cases e : j = x
  · rw [if_pos e, e, if_pos hx.symm]
  · rw [if_neg e, if_neg (fun h => e (h.symm.trans hx.symm))]
    omega

theorem lst_step {c i x : Nat} (hx : x = i % c) : (x : Int) = lst c (i + 1) := by
  rw [hx]
  simp [lst]

theorem below_dn {B : Nat} {a w : World} (h : Below B a w) (n : Nat) : Below B a (w.drewN n) := ⟨h.os, h.tape, h.output, h.size, h.block⟩

section
variable {k p s U R L N : Int}

theorem geo_one {w : World} {b b' : Nat} {c l k p s : Int} (hne : b' ≠ b) (h : Geo w b' c l k p s) (x : Nat) (v : Value) : Geo (w.setCell ⟨b, x, none⟩ v) b' c l k p s := by
  have one : ∀ (i j : Nat) (w : World) (v : Value), (w.setCell ⟨b, i, none⟩ v).cell? ⟨b', j, none⟩ = w.cell? ⟨b', j, none⟩ := fun i j w v => World.cell?_setCell_other w _ _ v (fun e => by cases e; exact hne rfl)
  simpa [Geo, one] using h

theorem bad {c l : Int} (h : ¬ Geom.ok c l k p s) (w : World) :
    Calls Try.prog 8 #[.agg #[.int .i64 c, .int .i64 l, .int .i64 k, .int .i64 p, .int .i64 s]] w fun e w' => e = .returned (.bool true) ∧ Below w.heap.size w w' := by
  have H := Lib.hid h
  clear h
  have HB := Lib.hid ((Below.refl w.heap.size w).alloc (Nat.le_refl _) (.cells #[.int .i64 c, .int .i64 l, .int .i64 k, .int .i64 p, .int .i64 s] 23))
  have HG := Lib.hid (geo_new w 23 c l k p s)
  go_enter Try.func8, Try.ntmps8
  go_wp2_with fail
  refine (awake_any _).mono ?_
  rintro e w1 ⟨rfl, hb⟩
  replace HB := Lib.hid (below_then HB.out hb)
  replace HG := Lib.hid (geo_keep HG.out hb)
  clear hb
  obtain ⟨G0, G1, G2, G3, G4⟩ := HG.out
  go_wp2_with fail
  clear G0 G1 G2 G3 G4
  refine (right_bad H.out _).mono ?_
  rintro e w2 ⟨rfl, hb⟩
  replace HB := Lib.hid (below_then HB.out hb)
  replace HG := Lib.hid (geo_keep HG.out hb)
  clear hb
  go_wp2
  go_ret
  exact ⟨rfl, HB.out⟩

set_option maxHeartbeats 2000000 in
theorem good {c l n : Nat} (h : Geom.Sizes (c : Int) (l : Int) k p s (n : Int) R L N) (w : World) :
    Calls Try.prog 8 #[.agg #[.int .i64 (c : Int), .int .i64 (l : Int), .int .i64 k, .int .i64 p, .int .i64 s]] w fun e w' => e = .returned (.bool true) ∧ Below w.heap.size w w' := by
  have hc0 : 1 ≤ c := by have := h.may.1; omega
  have hc4 : c ≤ 4 := by have := h.may.2.1; omega
  have hl0 : 1 ≤ l := by have := h.may.2.2.1; omega
  have hl2 : l ≤ 2 := by have := h.may.2.2.2.1; omega
  have hn0 : 1 ≤ n := by have := h.u0; omega
  have hn8 : n ≤ 8 := by have := h.u1; omega
  have hn : n = c * l := by have := h.u; rw [← Int.natCast_mul] at this; exact Int.ofNat_inj.1 this
  have hcn : c ≤ n := by rw [hn]; exact Nat.le_mul_of_pos_right c (by omega)
  have HCH := Lib.hid (show ∀ i : Nat, i < n → ∀ w, Calls Try.prog 23 #[.agg #[.int .i64 (c : Int), .int .i64 (l : Int), .int .i64 k, .int .i64 p, .int .i64 s], .int .i64 (i : Int)] w fun e w' => e = .returned (.tuple #[.int .i64 ((i % c : Nat) : Int), .int .i64 0]) ∧ Below w.heap.size w w' from fun i hi w => by
    have := chan_in h (i : Int) (by omega) (by omega) w
    rwa [← Int.natCast_emod] at this)
  have HN := Lib.hid hn
  have H := Lib.hid h
  clear h hn
  have HB := Lib.hid ((Below.refl w.heap.size w).alloc (Nat.le_refl _) (.cells #[.int .i64 (c : Int), .int .i64 (l : Int), .int .i64 k, .int .i64 p, .int .i64 s] 23))
  have HG := Lib.hid (geo_new w 23 (c : Int) (l : Int) k p s)
  go_enter Try.func8, Try.ntmps8
  go_wp2_with fail
  refine (awake_any _).mono ?_
  rintro e w1 ⟨rfl, hb⟩
  replace HB := Lib.hid (below_then HB.out hb)
  replace HG := Lib.hid (geo_keep HG.out hb)
  clear hb
  obtain ⟨G0, G1, G2, G3, G4⟩ := HG.out
  go_wp2_with fail
  clear G0 G1 G2 G3 G4
  refine (right_ok H.out.may _).mono ?_
  rintro e w2 ⟨rfl, hb⟩
  replace HB := Lib.hid (below_then HB.out hb)
  replace HG := Lib.hid (geo_keep HG.out hb)
  clear hb
  obtain ⟨G0, G1, G2, G3, G4⟩ := HG.out
  go_wp2_with fail
  clear G0 G1 G2 G3 G4
  refine (Units_ok H.out _).mono ?_
  rintro e w3 ⟨rfl, hb⟩
  replace HB := Lib.hid (below_then HB.out hb)
  replace HG := Lib.hid (geo_keep HG.out hb)
  clear hb
  have hmk := run_make_ints (P := Try.prog) w3 39 3 Try.underlying39 info64 .i64 .i64 n (by omega)
  have HI := Lib.hid (ints_made w3 3 n)
  have hal := (Below.refl w3.heap.size w3).alloc (Nat.le_refl _) (.cells (List.replicate n (Value.int .i64 0)).toArray 3)
  have hQ : w.heap.size ≠ w3.heap.size := Nat.ne_of_lt (World.block_lt_of_cell? _ _ HG.out.1)
  have hQ' : w.heap.size ≤ w3.heap.size := HB.out.size
  replace HB := Lib.hid (below_then HB.out hal)
  replace HG := Lib.hid (geo_keep HG.out hal)
  clear hal
  generalize w3.alloc (.cells (List.replicate n (Value.int .i64 0)).toArray 3) = w4 at HI HB HG hmk
  generalize w3.heap.size = Q at HI hQ hQ' hmk
  go_wp2
  clear hmk
  go_loopw [7, 8] (fun x y wr => ∃ i : Nat, i ≤ n ∧ y = .int .i64 (i : Int) ∧ x = .int .i64 (lst c i) ∧ Geo wr w.heap.size (c : Int) (l : Int) k p s ∧ Ints wr Q n (cnt c i) ∧ Below w.heap.size w wr) (fun _ y _ => n - (intOf y).toNat)
  case atStart => exact ⟨0, by omega, rfl, rfl, HG.out, HI.out, HB.out⟩
  case round =>
    clear HG HI HB
    obtain ⟨i, hi, rfl, rfl, hg, hin, hb⟩ := hrel
    have HG := Lib.hid hg
    have HI := Lib.hid hin
    have HB := Lib.hid hb
    clear hg hin hb
    by_cases hlt : i < n
    · obtain ⟨G0, G1, G2, G3, G4⟩ := HG.out
      go_wp2_with fail
      clear G0 G1 G2 G3 G4
      refine (HCH.out i hlt _).mono ?_
      rintro e w5 ⟨rfl, hb⟩
      replace HB := Lib.hid (below_then HB.out hb)
      replace HG := Lib.hid (geo_keep HG.out hb)
      replace HI := Lib.hid (ints_keep HI.out hb)
      clear hb
      have hxc : i % c < c := Nat.mod_lt _ (by omega)
      have hne := fun h2 => lst_ne (c := c) (i := i) h2 hc4 (by omega)
      obtain ⟨x, hx⟩ : ∃ x, x = i % c := ⟨_, rfl⟩
      rw [← hx] at hxc hne ⊢
      have HX := Lib.hid hx
      have HNE := Lib.hid hne
      clear hx hne
      have hxn : x < n := by omega
      obtain ⟨v, hv⟩ : ∃ v, v = cnt c i x := ⟨_, rfl⟩
      have hF := (HI.out x hxn)
      have hbd := cnt_bd c i x
      rw [← hv] at hF hbd
      have HV := Lib.hid hv
      clear hv
      obtain ⟨F0, Z0⟩ := hF
      obtain ⟨v0, v1⟩ := hbd
      generalize hlv : lst c i = lv at HNE ⊢
      clear hlv
      obtain ⟨G0, G1, G2, G3, G4⟩ := HG.out
      have hxi : (x : Int) < (n : Int) := by omega
      have hxj : (x : Int) < (c : Int) := by omega
      rcases Nat.lt_or_ge 1 c with h2 | h2
      · have hne := HNE.out (by omega)
        go_wp2
        refine ⟨⟨i + 1, by omega, by go_num, congrArg (Value.int .i64) (lst_step HX.out), geo_one hQ HG.out _ _, ints_eq (ints_set HI.out hxn (v + 1)) (fun j _ => ?_), HB.out.setCell hQ' _⟩, ?_⟩
        · rw [HV.out]
          exact cnt_step HX.out j
        · simp [intOf]
          omega
      · have hc1 : ¬ (1 : Int) < (c : Int) := by omega
        rcases Decidable.em (lv = (x : Int)) with rfl | hxl
        · go_wp2
          refine ⟨⟨i + 1, by omega, by go_num, congrArg (Value.int .i64) (lst_step HX.out), geo_one hQ HG.out _ _, ints_eq (ints_set HI.out hxn (v + 1)) (fun j _ => ?_), HB.out.setCell hQ' _⟩, ?_⟩
          · rw [HV.out]
            exact cnt_step HX.out j
          · simp [intOf]
            omega
        · have hxm : ¬ (x : Int) = lv := fun h => hxl h.symm
          go_wp2
          refine ⟨⟨i + 1, by omega, by go_num, congrArg (Value.int .i64) (lst_step HX.out), geo_one hQ HG.out _ _, ints_eq (ints_set HI.out hxn (v + 1)) (fun j _ => ?_), HB.out.setCell hQ' _⟩, ?_⟩
          · rw [HV.out]
            exact cnt_step HX.out j
          · simp [intOf]
            omega
    · have hin : i = n := by omega
      subst hin
      clear hlt hi
      have HA := Lib.hid (fun (j : Nat) (hj : j < c) => (show cnt c i j = l by rw [HN.out]; exact cnt_all hc0 hc4 hl0 hl2 hj))
      go_wp2
      go_loopw [11] (fun y wv => ∃ j : Nat, j ≤ c ∧ y = .int .i64 (j : Int) ∧ Geo wv w.heap.size (c : Int) (l : Int) k p s ∧ Ints wv Q i (cnt c i) ∧ Below w.heap.size w wv) (fun y _ => c - (intOf y).toNat)
      case atStart => exact ⟨0, by omega, rfl, HG.out, HI.out, HB.out⟩
      case round =>
        clear HG HI HB
        obtain ⟨j, hj, rfl, hg, hin, hb⟩ := hrel
        have HG := Lib.hid hg
        have HI := Lib.hid hin
        have HB := Lib.hid hb
        clear hg hin hb
        obtain ⟨G0, G1, G2, G3, G4⟩ := HG.out
        by_cases hjc : j < c
        · have hF := (HI.out j (by omega)).1
          rw [HA.out j hjc] at hF
          have hji : (j : Int) < (i : Int) := by omega
          go_wp2
          go_quiet (fail)
          go_wp2
          go_roundw
          case rel => exact ⟨j + 1, by omega, by go_num, geo_keep HG.out (below_dn (Below.refl _ _) nq), ints_keep HI.out (below_dn (Below.refl _ _) nq), below_dn HB.out nq⟩
          case measure => simp [intOf]; omega
        · go_wp2
          go_ret
          exact ⟨rfl, HB.out⟩
end

theorem walk (c l k p s : Int) (w : World) :
    Calls Try.prog 8 #[.agg #[.int .i64 c, .int .i64 l, .int .i64 k, .int .i64 p, .int .i64 s]] w fun e w' => e = .returned (.bool true) ∧ Below w.heap.size w w' := by
  rcases Decidable.em (Geom.ok c l k p s) with h | h
  · obtain ⟨c, rfl⟩ := Int.eq_ofNat_of_zero_le (show 0 ≤ c by have := h.1; omega)
    obtain ⟨l, rfl⟩ := Int.eq_ofNat_of_zero_le (show 0 ≤ l by have := h.2.2.1; omega)
    have hs := Geom.sizes h
    rw [← Int.natCast_mul] at hs
    exact good hs w
  · exact bad h w

theorem own : ownKnob Try.prog.godebug = none := by kernel_rfl
theorem laid : laidOutB Try.prog = true := by kernel_rfl

set_option maxRecDepth 100000 in
theorem lifted (os : Os) (started : os.Started) (H : Type) (enc : TypeId × Value → H) :
    ReturnsInHanded {} Try.checked os 8 .any (Rows.geomChansSpec.pre6 enc Try.prog Try.f8 Rows.geomChansRow.domain false) (Rows.geomChansSpec.post enc Try.prog Try.f8 false true false false) := by
  refine returnsInHanded_of_change (C := Try.checked) own started (by kernel_rfl) Try.func8
    (ChangeSpec.witness6 (enc := enc) (C := Try.checked) false ⟨#[], #[.agg #[.int .i64 0, .int .i64 0, .int .i64 0, .int .i64 0, .int .i64 0]], []⟩ 8 (by kernel_rfl) (by kernel_rfl) (by kernel_rfl) (by kernel_rfl)) ?_
  intro W base args ds gs before hval0 hW _ _
  have hval : ∀ (j : Nat) t v, Try.f8.params[j]? = some t → args[j]? = some v → Value.okWide Try.prog W .any base t v := hval0
  have hW' := hW
  obtain ⟨p, q, hA0, hV, rfl, hfz, hnd⟩ := hW
  have hA : DataW.TrodAll enc Try.prog W 0 (fun _ => true) true Try.f8.params.toList args.toList ds p := hA0
  rw [Try.params8] at hA hval
  obtain ⟨v0, d0, rfl, rfl, h0⟩ := trodAll_one hA
  obtain ⟨c0, l0, k0, q0, s0, rfl⟩ := open_geo Try.underlying23 rfl (by kernel_rfl) (by kernel_rfl) (hval 0 23 v0 rfl rfl) h0
  refine (walk c0 l0 k0 q0 s0 W ).mono fun e W' ⟨he, hb⟩ => ?_
  subst he
  exact ⟨_, rfl, Law.post laid (by kernel_rfl) (by kernel_rfl) Try.underlying4 rfl hW' rfl hb⟩

theorem proved : Rows.GeomChansSaid :=
  OpenClaim.holds_of_wide 8 Try.f8 rfl rfl rfl rfl rfl rfl rfl ⟨rfl, rfl, rfl, rfl, rfl⟩ rfl rfl rfl rfl rfl (by kernel_rfl) Try.func8 (by kernel_rfl)
    (of_decide_eq_true (by kernel_rfl)) (by unfold Func.isWrapper; first | (rw [if_pos (by decide +kernel)]; kernel_rfl) | (rw [if_neg (by decide +kernel)]; exact ⟨rfl, rfl⟩))
    (fun os started H enc _ => lifted os started H enc)

end Go.Proofs.Ytaimecbfplcmhaa.geomChans
