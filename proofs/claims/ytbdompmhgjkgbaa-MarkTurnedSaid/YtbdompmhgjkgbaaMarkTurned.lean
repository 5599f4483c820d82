/-
  MarkTurned: for every mark and every two ints the law answers true. No condition.
-/
import Derived.Test.YtbdompmhgjkgbaaMarkKit
import Derived.Test.YtbdompmhgjkgbaaArrays
import Derived.Deep.DeepCutAuto
namespace Go.Proofs.Ytbdompmhgjkgbaa.markTurned
open Go.ChangeShapes Go.WideShapes Go.ChangeAt Go.RowKit Go.Proofs.Ytbdompmhgjkgbaa.OobPkg Go.Proofs.Ytbdompmhgjkgbaa.MarkPkg
set_option maxRecDepth 4000

/-- A byte turned. -/
def turn (x : UInt8) (t : Int) : UInt8 := x ^^^ UInt8.ofNat t.toNat

theorem turn_is (x : UInt8) (t : Int) (h0 : 0 ≤ t) (h1 : t < 256) : bits .xor .u8 (x.toNat : Int) t = ((turn x t).toNat : Int) := by
  obtain ⟨n, rfl⟩ := Int.eq_ofNat_of_zero_le h0
  have h := u8_xor_nat x.toNat n x.toNat_lt (by omega)
  rw [h]
  unfold turn
  rw [UInt8.toNat_xor, UInt8.toNat_ofNat']
  simp
  rw [Nat.mod_eq_of_lt (by omega)]

theorem turn_ne (x : UInt8) (t : Int) (h0 : 0 < t) (h1 : t < 256) : turn x t ≠ x := by
  intro e
  unfold turn at e
  have h2 : x ^^^ (x ^^^ UInt8.ofNat t.toNat) = x ^^^ x := by rw [e]
  rw [← UInt8.xor_assoc] at h2
  simp at h2
  have h3 := congrArg UInt8.toNat h2
  rw [UInt8.toNat_ofNat'] at h3
  simp at h3
  omega

set_option maxHeartbeats 2000000 in
theorem walk (l r s : Int) (x0 x1 : Int) (w : World) (hx0 : -9223372036854775808 ≤ x0) (hx1 : x0 ≤ 9223372036854775807) (_hy0 : -9223372036854775808 ≤ x1) (_hy1 : x1 ≤ 9223372036854775807) :
    Calls Try.prog 7 #[tri l r s, .agg #[.int .i64 x0, .int .i64 x1]] w fun e w' => e = .returned (.bool true) ∧ Below w.heap.size w w' := by
  have HB := Lib.hid (((Below.refl w.heap.size w).alloc (Nat.le_refl _) (.cells #[.int .i64 l, .int .i64 r, .int .i64 s] 23)).alloc (by simp) (.cells #[.int .i64 x0, .int .i64 x1] 39))
  have H1 := Lib.hid ((Three.new 23 w l r s).old (.cells #[.int .i64 x0, .int .i64 x1] 39))
  have hxa : ((w.alloc (.cells #[.int .i64 l, .int .i64 r, .int .i64 s] 23)).alloc (.cells #[.int .i64 x0, .int .i64 x1] 39)).cell? ⟨w.heap.size + 1, 0, none⟩ = some (.int .i64 x0) := by
    rw [World.cell?_alloc_at _ _ _ _ (by simp)]
    rfl
  have hxb : ((w.alloc (.cells #[.int .i64 l, .int .i64 r, .int .i64 s] 23)).alloc (.cells #[.int .i64 x0, .int .i64 x1] 39)).cell? ⟨w.heap.size + 1, 1, none⟩ = some (.int .i64 x1) := by
    rw [World.cell?_alloc_at _ _ _ _ (by simp)]
    rfl
  have HXA := Lib.hid hxa
  have HXB := Lib.hid hxb
  clear hxa hxb
  go_enter Try.func7, Try.ntmps7
  go_wp2_with fail
  refine (awake_any _).mono ?_
  rintro e w1 ⟨rfl, hb⟩
  replace HB := Lib.hid (below_on HB.out hb)
  replace H1 := Lib.hid (H1.out.keep hb)
  replace HXA := Lib.hid (cell_stays hb HXA.out)
  replace HXB := Lib.hid (cell_stays hb HXB.out)
  clear hb
  generalize w.heap.size + 1 = g2 at HXA HXB ⊢
  have c10 := H1.out.c0
  have c11 := H1.out.c1
  have c12 := H1.out.c2
  obtain ⟨t, ht⟩ : ∃ t, t = IntKind.u8.wrap x1 := ⟨_, rfl⟩
  have ht01 : 0 ≤ t ∧ t < 256 := by rw [ht, IntKind.wrap_u8]; omega
  have hwt : IntKind.u8.wrap x1 = t := ht.symm
  clear ht
  by_cases ok1 : Mark.Ok l r s
  · have OK1 := Lib.hid ok1
    clear ok1
    go_wp2_with fail
    refine (Sector_ok OK1.out w1).mono ?_
    rintro e w2 ⟨A3, rfl, hr3, hb⟩
    replace HB := Lib.hid (below_on HB.out hb)
    replace H1 := Lib.hid (H1.out.keep hb)
    replace HXA := Lib.hid (cell_stays hb HXA.out)
    replace HXB := Lib.hid (cell_stays hb HXB.out)
    obtain ⟨u, hu⟩ : ∃ u, u = Mark.code l r s := ⟨_, rfl⟩
    rw [← hu] at hr3
    have HR3 := Lib.hid hr3
    have Hu := Lib.hid hu
    have HUL := Lib.hid hr3.1
    clear hb hr3 hu c10 c11 c12
    have cxa := HXA.out
    have cxb := HXB.out
    have HGX := Lib.hid (show g2 < w2.heap.size from World.block_lt_of_cell? w2 ⟨g2, 0, none⟩ cxa)
    have HG1 := Lib.hid (show w.heap.size < w2.heap.size from H1.out.lt)
    by_cases hneg : x0 < 0
    · go_wp2
      go_ret
      exact ⟨rfl, HB.out⟩
    by_cases htz : t = 0
    · have htz2 : (t == 0) = true := by simp [htz]
      clear htz
      go_wp2
      go_ret
      exact ⟨rfl, HB.out⟩
    have htz2 : (t == 0) = false := by simp [htz]
    obtain ⟨x0, rfl⟩ := Int.eq_ofNat_of_zero_le (show 0 ≤ x0 by omega)
    have HTP := Lib.hid (show 0 < t by omega)
    clear htz hneg
    have HL1 := Lib.hid (show ([] : List UInt8).length + 16 ≤ 140737488355328 by show 0 + _ ≤ _; omega)
    have HBa := Lib.hid ((Below.refl w2.heap.size w2).alloc (Nat.le_refl _) (.cells #[] 5))
    go_wp2_with (at_builtin; refine wpList_append_bytes _ rfl _ _ _ rfl w2.heap.size 5 Try.underlying25 info8 _ [] rfl (own_new w2 5 [] _ rfl (Nat.zero_le _)) w2.heap.size A3 16 16 u rfl (bytes_keep HR3.out HBa.out) HL1.out HBa.out.size ?_)
    intro va wb hob hgb _
    have HBd := Lib.hid (HBa.out.grown hgb HBa.out.size (fun k hk => by simp [Value.ownBlock] at hk; omega))
    replace hob : Own wb w2.heap.size 5 va u := hob
    obtain ⟨g, cap, rfl, hgw, hcap, hcm⟩ := hob.form (by rw [HUL.out]; omega)
    rw [HUL.out] at hcap hob ⊢
    have HOB := Lib.hid hob
    have HG := Lib.hid hgw
    replace HXA := Lib.hid (cell_stays HBd.out HXA.out)
    replace HXB := Lib.hid (cell_stays HBd.out HXB.out)
    replace H1 := Lib.hid (H1.out.keep HBd.out)
    have HBw := Lib.hid (HB.out.trans (HBd.out.mono HB.out.size))
    unfold maxLen at hcm
    clear hob hgb HBa HL1 cxa cxb hgw
    have cxa := HXA.out
    have cxb := HXB.out
    obtain ⟨q, hq⟩ : ∃ q : Nat, q = x0 % 16 := ⟨_, rfl⟩
    have hq16 : q < 16 := by omega
    have hqt : (x0 : Int).tmod 16 = (q : Int) := by rw [Int.tmod_eq_emod_of_nonneg (by omega)]; omega
    have hqi : (q : Int) < 16 := by omega
    obtain ⟨hc, hfz⟩ := HOB.out.cell (i := q) (by rw [HUL.out]; exact hq16)
    obtain ⟨x, hx⟩ : ∃ x, x = u[q]'(by rw [HUL.out]; exact hq16) := ⟨_, rfl⟩
    rw [← hx] at hc
    replace hc : wb.cell? ⟨g, q, none⟩ = some (.int .u8 (x.toNat : Int)) := hc
    have HX := Lib.hid hx
    clear hq hx
    go_wp2
    go_region
    generalize hX : (wb.setCell ⟨g, q, none⟩ (.int .u8 (bits .xor .u8 (x.toNat : Int) t))).drew = X
    obtain ⟨z, hz⟩ : ∃ z, z = turn x t := ⟨_, rfl⟩
    have hzn : z ≠ x := by rw [hz]; exact turn_ne x t HTP.out ht01.2
    rw [turn_is x t ht01.1 ht01.2, ← hz] at hX
    have HOX : Own X w2.heap.size 5 (.slice (some ⟨g, 0, none⟩) 16 cap) (u.set q z) := by
      rw [← hX]
      exact HOB.out.set q z
    have HBX0 := Lib.hid (show Below w2.heap.size wb X by rw [← hX]; exact ((Below.refl w2.heap.size wb).setCell HG.out _).drew)
    have HBX := Lib.hid (HBw.out.trans (HBX0.out.mono HB.out.size))
    replace HXA := Lib.hid (show X.cell? ⟨g2, 0, none⟩ = some (.int .i64 (x0 : Int)) from (HBX0.out.cell (p := ⟨g2, 0, none⟩) HGX.out).trans HXA.out)
    replace H1 := Lib.hid (H1.out.under HBX0.out HG1.out)
    have hun := Mark.turned (i := q) (y := z) OK1.out hq16 (by
      have e := HX.out
      intro e2
      apply hzn
      rw [e2, e]
      simp only [Hu.out]
      rfl)
    rw [← Hu.out] at hun
    obtain ⟨A7, c7, hv7, hr7⟩ := HOX.reads
    injection hv7 with hv71 hv72 hv73
    subst hv71
    rw [← hv72] at hr7
    have HRF := Lib.hid (show Bytes X X.heap.size (some ⟨g, 0, none⟩) 16 (u.set q z) from hr7)
    clear hX hc hfz hz hzn HOX hr7 hv72 hv73 cxa cxb
    rcases hun with ⟨hun, hne⟩ | ⟨l', r', s', hun, hne⟩
    · have HUN := Lib.hid hun
      clear hun
      go_wp2_with fail
      refine (Read_is HRF.out HUN.out).mono ?_
      rintro e w9 ⟨rfl, hb⟩
      have HB9 := Lib.hid ((below_on HBX.out hb).alloc (below_on HBX.out hb).size (.cells #[.int .i64 0, .int .i64 0, .int .i64 0] 23))
      have hb9 := hb.alloc hb.size (.cells #[.int .i64 0, .int .i64 0, .int .i64 0] 23)
      have cxa9 := cell_stays hb9 HXA.out
      have hz9 := bytes_keep HRF.out hb9
      by_cases hq2 : q = 2
      · subst hq2
        have hgt : 63 < z.toNat := by
          rcases hne with h | h
          · exact absurd rfl h
          · exact h
        have cz := bytes_cell hz9 rfl (k := 2) (x := z) (by rw [List.getElem?_set_self (by rw [HUL.out]; omega)])
        have hgti : (63 : Int) < (z.toNat : Int) := by omega
        rw [Nat.zero_add] at cz
        clear hb hb9 hz9 hne hgt
        go_wp2
        go_ret
        exact ⟨by simp, HB9.out⟩
      · have hq2i : ¬ (q : Int) = 2 := by omega
        clear hb hb9 hz9 hne hq2
        go_wp2
        go_ret
        exact ⟨by simp, HB9.out⟩
    · have HUN := Lib.hid hun
      clear hun
      go_wp2_with fail
      refine (Read_is HRF.out HUN.out).mono ?_
      rintro e w9 ⟨rfl, hb⟩
      have HB9 := Lib.hid ((below_on HBX.out hb).alloc (below_on HBX.out hb).size (.cells #[.int .i64 l', .int .i64 r', .int .i64 s'] 23))
      replace H1 := Lib.hid (H1.out.keep (hb.alloc hb.size (.cells #[.int .i64 l', .int .i64 r', .int .i64 s'] 23)))
      have c10 := H1.out.c0
      have c11 := H1.out.c1
      have c12 := H1.out.c2
      clear hb
      rcases Decidable.em (l' = l) with rfl | h
      · rcases Decidable.em (r' = r) with rfl | h
        · have h : ¬ s' = s := fun e => hne ⟨rfl, rfl, e⟩
          clear hne
          go_wp2
          go_ret
          exact ⟨by simp, HB9.out⟩
        · clear hne
          go_wp2
          go_ret
          exact ⟨by simp, HB9.out⟩
      · clear hne
        go_wp2
        go_ret
        exact ⟨by simp, HB9.out⟩
  · go_wp2_with fail
    refine (Sector_bad ok1 w1).mono ?_
    rintro e w3 ⟨rfl, hb⟩
    replace HB := Lib.hid (below_on HB.out hb)
    have cxa := cell_stays hb HXA.out
    have cxb := cell_stays hb HXB.out
    clear hb c10 c11 c12 ok1
    go_wp2
    all_goals go_ret
    all_goals exact ⟨rfl, HB.out⟩

theorem own : ownKnob Try.prog.godebug = none := by kernel_rfl
theorem laid : laidOutB Try.prog = true := by kernel_rfl
theorem one64 : Try.prog.cellsOf 3 = 1 := by kernel_rfl

set_option maxRecDepth 100000 in
theorem lifted (os : Os) (started : os.Started) (H : Type) (enc : TypeId × Value → H) :
    ReturnsInHanded {} Try.checked os 7 .any (Rows.markTurnedSpec.pre6 enc Try.prog Try.f7 Rows.markTurnedRow.domain false) (Rows.markTurnedSpec.post enc Try.prog Try.f7 false true false false) := by
  refine returnsInHanded_of_change (C := Try.checked) own started (by kernel_rfl) Try.func7
    (ChangeSpec.witness6 (enc := enc) (C := Try.checked) false ⟨#[], #[.agg #[.int .i64 0, .int .i64 0, .int .i64 0], .agg #[.int .i64 0, .int .i64 0]], []⟩ 8 (by kernel_rfl) (by kernel_rfl) (by kernel_rfl) (by kernel_rfl)) ?_
  intro W base args ds gs before hval0 hW _ _
  have hval : ∀ (j : Nat) t v, Try.f7.params[j]? = some t → args[j]? = some v → Value.okWide Try.prog W .any base t v := hval0
  have hW' := hW
  obtain ⟨p, q, hA0, hV, rfl, hfz, hnd⟩ := hW
  have hA : DataW.TrodAll enc Try.prog W 0 (fun _ => true) true Try.f7.params.toList args.toList ds p := hA0
  rw [Try.params7] at hA hval
  obtain ⟨v0, v1, d0, d1, p0, p1, rfl, rfl, rfl, h0, h1⟩ := trodAll_two hA
  obtain ⟨k0, l0, s0, rfl⟩ := open_oob Try.underlying23 rfl (by kernel_rfl) (by kernel_rfl) (hval 0 23 v0 rfl rfl) h0
  obtain ⟨y1, z1, rfl, hby1, hbz1⟩ := open_ints2 Try.underlying39 (by kernel_rfl) Try.underlying3 one64 (hval 1 39 v1 rfl rfl) h1
  refine (walk k0 l0 s0 y1 z1 W hby1.1 hby1.2 hbz1.1 hbz1.2).mono fun e W' ⟨he, hb⟩ => ?_
  subst he
  exact ⟨_, rfl, Law.post laid (by kernel_rfl) (by kernel_rfl) Try.underlying4 rfl hW' rfl hb⟩

theorem proved : Rows.MarkTurnedSaid :=
  OpenClaim.holds_of_wide 7 Try.f7 rfl rfl rfl rfl rfl rfl rfl ⟨rfl, rfl, rfl, rfl, rfl⟩ rfl rfl rfl rfl rfl (by kernel_rfl) Try.func7 (by kernel_rfl)
    (of_decide_eq_true (by kernel_rfl)) (by unfold Func.isWrapper; first | (rw [if_pos (by decide +kernel)]; kernel_rfl) | (rw [if_neg (by decide +kernel)]; exact ⟨rfl, rfl⟩))
    (fun os started H enc _ => lifted os started H enc)

end Go.Proofs.Ytbdompmhgjkgbaa.markTurned
