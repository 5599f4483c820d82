/-
  PageBack holds: what was built of slots is read as they were, in order; for whatever slots came in. No condition.
-/
import Derived.Test.YteonjdigcecceaaPageKit
import Derived.Test.YteonjdigcecceaaPageOps
import Derived.OpenShut
import Derived.BigQuiet
import Derived.Deep.DeepCutAuto
namespace Go.Proofs.Yteonjdigcecceaa.pageBack
open Go.RowKit Go.ChangeShapes Go.WideShapes Page PagePkg PageLaw Lib
set_option maxRecDepth 4000

set_option maxHeartbeats 8000000 in
theorem walk (n : Int) (A : Option Addr) (m c : Nat) (ss : List Sl) (w : World) (_hn0 : -9223372036854775808 ≤ n) (_hn1 : n ≤ 9223372036854775807) (hnc : m ≤ c) (hcm : c ≤ maxLen) (hr : Slots w w.heap.size A m ss) :
    Calls Try.prog 6 #[.int .i64 n, .slice A m c] w fun e w' => e = .returned (.bool true) ∧ Below w.heap.size w w' := by
  have HA := Lib.hid (awake_any w)
  have HSL := Lib.hid (fun X (hX : Below w.heap.size w X) => slim_any A m c ss X (hr.below hX) ⟨hnc, hcm⟩)
  have HBU := Lib.hid (fun X (hX : Below w.heap.size w X) => Build_any n A m c ss X (hr.below hX))
  have HR := Lib.hid hr
  have HM := Lib.hid hr.len
  clear hr hnc hcm
  by_cases hs : Slim ss
  · simp only [decide_eq_true hs] at HSL
    have HSM := Lib.hid hs
    clear hs
    by_cases hg : fits n m ∧ ∀ p ∈ ss.map Sl.pc, p.Ok
    · obtain ⟨hf, hok⟩ := hg
      obtain ⟨N, rfl⟩ : ∃ N : Nat, n = (N : Int) := ⟨n.toNat, by unfold fits at hf; omega⟩
      have hm1 : 1 ≤ m := hf.1
      have hmN : m ≤ N := by have := hf.2.1; omega
      have hN4 : N ≤ 4 := by have := hf.2.2; omega
      have HF := Lib.hid (show fits (N : Int) (ss.map Sl.pc).length by rw [List.length_map, HM.out]; exact hf)
      have HOK := Lib.hid hok
      clear hf hok
      go_enter Try.func6, Try.ntmps6
      go_wp2_with fail
      refine HA.out.mono ?_
      rintro e w1 ⟨rfl, hb⟩
      have HB := Lib.hid hb
      clear hb HA
      go_wp2_with fail
      refine (HSL.out w1 HB.out).mono ?_
      rintro e w2 ⟨rfl, hw⟩
      subst w2
      clear HSL
      go_wp2_with fail
      refine (HBU.out w1 HB.out).mono ?_
      intro e w2 hbt
      obtain ⟨A1, c1, A2, c2, qs, rfl, h1, h2, hpg, htwo, hc1, hc2, hm1', hm2', hb⟩ := built_yes hbt HF.out HOK.out
      have HB2 := Lib.hid (below_on HB.out hb HB.out.size)
      have HD := Lib.hid h1
      have HO := Lib.hid h2
      have HPG := Lib.hid hpg
      have HTWO := Lib.hid htwo
      clear hbt h1 h2 hpg htwo hb HBU
      have HRD := Lib.hid (Read_any A1 A2 N c1 N c2 _ _ w2 HD.out HO.out (by omega))
      rw [all_built HOK.out (by rw [HM.out]; exact hmN), HM.out] at HRD
      clear HD HO HPG HTWO
      go_wp2_with fail
      refine HRD.out.mono ?_
      rintro e w3 ⟨v, rs, rfl, hh, hkey, hb⟩
      have hl : rs.length = m := by have := congrArg List.length hkey; simpa using this
      obtain ⟨A6, c6, hv, _, _, hA⟩ := hh.form
      rw [hl] at hv hA
      obtain ⟨g, rfl, _, _⟩ := hA (by omega)
      subst hv
      have HH := Lib.hid hh
      have HKEY := Lib.hid hkey
      have HB3 := Lib.hid (below_on HB2.out hb HB2.out.size)
      clear hh hkey hb hA hl HRD
      go_wp2
      go_loopw [11] (fun i wr => ∃ j : Nat, i = .int .i64 (j : Int) ∧ j ≤ m ∧ Below w3.heap.size w3 wr) (fun i _ => m - (intOf i).toNat)
      case atStart => exact ⟨0, rfl, by omega, Below.refl _ _⟩
      case round =>
        obtain ⟨j, rfl, hj, hbw⟩ := hrel
        have HBW := Lib.hid hbw
        have HBA := Lib.hid (below_on HB3.out hbw HB3.out.size)
        clear hbw
        by_cases hjm : j < m
        · have hjm2 : (j : Int) < (m : Int) := by omega
          have hj0 : (0 : Int) ≤ (j : Int) := by omega
          obtain ⟨x, hx⟩ : ∃ x, ss[j]? = some x := ⟨_, List.getElem?_eq_getElem (by rw [HM.out]; exact hjm)⟩
          have hkx : x.k = 1 ∨ x.k = 2 := Sl.kind (HOK.out _ (List.mem_map.2 ⟨x, List.mem_of_getElem? hx, rfl⟩))
          have hrow := row_at HKEY.out hx hjm
          obtain ⟨r, hr, hz, hd⟩ := hrow
          obtain ⟨z, Ar, cr, d'⟩ := r
          dsimp only at hz hd
          subst hz
          have hhw := HH.out.below HBW.out
          have q0 := hhw.cell hr (j := 0) rfl
          have q1 := hhw.cell hr (j := 1) rfl
          have q2 := hhw.cell hr (j := 2) rfl
          have q3 := hhw.cell hr (j := 3) rfl
          have q4 := hhw.cell hr (j := 4) rfl
          rw [Nat.add_zero] at q0
          have hby := hhw.bytes (List.mem_of_getElem? hr)
          dsimp only at q0 q1 q2 q3 q4 hby
          obtain ⟨b, off, Ap, cp, hA, hat⟩ := (HR.out.keep HBA.out).at_ j x hx
          subst hA
          have k0 := hat.c0
          have k1 := hat.c1
          have k2 := hat.c2
          have k3 := hat.c3
          have k4 := hat.c4
          have HDAT := Lib.hid hat.data
          have HBY := Lib.hid hby
          have HSX := Lib.hid hd
          obtain ⟨k, l, s, d, f⟩ := x
          dsimp only at k0 k1 k2 k3 k4 HDAT HSX hkx q1 q2 q3
          clear hat hhw hby hr hd hx
          have hmk := fun w => made_zeros w
          rcases hkx with hk | hk
          · subst hk
            have hds : d' = d := HSX.out
            subst hds
            clear HSX
            go_upto_region 18 with fail
            refine at_wld ?_
            intro Y hY
            have hbY : Below wr.heap.size wr Y := by rw [hY]; exact ((Below.refl _ _).alloc (Nat.le_refl _) _).alloc (by simp) _
            have hbl : Y.heap[wr.heap.size]? = some (.cells #[.int .i64 1, .int .i64 l, .int .i64 s, .slice Ap d'.length cp, .int .i64 f] 42 (0, 0)) := by rw [hY]; exact (Below.heap_alloc _ _ _ (by simp)).trans (heap_alloc_new wr _)
            clear hY
            have t0 : Y.cell? ⟨wr.heap.size, 0, none⟩ = some (.int .i64 1) := by simp [World.cell?, hbl]
            have t1 : Y.cell? ⟨wr.heap.size, 1, none⟩ = some (.int .i64 l) := by simp [World.cell?, hbl]
            have t2 : Y.cell? ⟨wr.heap.size, 2, none⟩ = some (.int .i64 s) := by simp [World.cell?, hbl]
            replace q0 := hold_on hbY q0
            replace q1 := hold_on hbY q1
            replace q2 := hold_on hbY q2
            replace q3 := hold_on hbY q3
            replace q4 := hold_on hbY q4
            have hs1 := run_strs (P := Try.prog) Y 40 9 5 Try.underlying40 Try.underlying5 Try.underlying9 (c := cr) (bytes_keep HBY.out hbY)
            have hs2 := run_strs (P := Try.prog) Y 40 9 5 Try.underlying40 Try.underlying5 Try.underlying9 (c := cp) (bytes_keep HDAT.out (hbY.mono HBA.out.size))
            have hq := str_eq (rfl : d' = d')
            have HBY2 := Lib.hid (below_on HBW.out hbY HBW.out.size)
            clear hbY hbl k0 k1 k2 k3 k4 hmk HBY HDAT
            go_quiet (fail)
            go_wp2
            go_roundw
            case measure => simp [intOf]; omega
            case rel => exact ⟨j + 1, by go_num, by omega, below_draws HBY2.out _⟩
          · subst hk
            have hds : d' = zeros := HSX.out
            clear HSX
            go_upto_region 18 with fail
            refine at_wld ?_
            intro Y hY
            have hbY : Below wr.heap.size wr Y := by rw [hY]; exact ((Below.refl _ _).alloc (Nat.le_refl _) _).alloc (by simp) _
            have hbl : Y.heap[wr.heap.size]? = some (.cells #[.int .i64 2, .int .i64 l, .int .i64 s, .slice Ap d.length cp, .int .i64 f] 42 (0, 0)) := by rw [hY]; exact (Below.heap_alloc _ _ _ (by simp)).trans (heap_alloc_new wr _)
            have hz : Bytes Y Y.heap.size (some ⟨wr.heap.size + 1, 0, none⟩) 16 zeros := by
              have h := own_zeros (wr.alloc (.cells #[.int .i64 2, .int .i64 l, .int .i64 s, .slice Ap d.length cp, .int .i64 f] 42))
              rw [← hY, World.size_alloc] at h
              obtain ⟨A, c, e, h2⟩ := h.reads
              injection e with e _ _
              subst e
              exact h2
            clear hY
            have t0 : Y.cell? ⟨wr.heap.size, 0, none⟩ = some (.int .i64 2) := by simp [World.cell?, hbl]
            have t1 : Y.cell? ⟨wr.heap.size, 1, none⟩ = some (.int .i64 l) := by simp [World.cell?, hbl]
            have t2 : Y.cell? ⟨wr.heap.size, 2, none⟩ = some (.int .i64 s) := by simp [World.cell?, hbl]
            replace q0 := hold_on hbY q0
            replace q1 := hold_on hbY q1
            replace q2 := hold_on hbY q2
            replace q3 := hold_on hbY q3
            replace q4 := hold_on hbY q4
            have hs1 := run_strs (P := Try.prog) Y 40 9 5 Try.underlying40 Try.underlying5 Try.underlying9 (c := cr) (bytes_keep HBY.out hbY)
            have hs2 := run_strs (P := Try.prog) Y 40 9 5 Try.underlying40 Try.underlying5 Try.underlying9 (c := 16) hz
            rw [← hds] at hs2
            have hq := str_eq (rfl : d' = d')
            have HBY2 := Lib.hid (below_on HBW.out hbY HBW.out.size)
            clear hbY hbl k0 k1 k2 k3 k4 hmk HBY HDAT hz hds
            go_quiet (fail)
            go_wp2
            go_roundw
            case measure => simp [intOf]; omega
            case rel => exact ⟨j + 1, by go_num, by omega, below_draws HBY2.out _⟩
        · obtain rfl : j = m := by omega
          go_wp2
          go_ret
          exact ⟨rfl, HBA.out⟩
    · have HNO := Lib.hid (show ¬ (fits n (ss.map Sl.pc).length ∧ ∀ p ∈ ss.map Sl.pc, p.Ok) by rw [List.length_map, HM.out]; exact hg)
      clear hg
      go_enter Try.func6, Try.ntmps6
      go_wp2_with fail
      refine HA.out.mono ?_
      rintro e w1 ⟨rfl, hb⟩
      have HB := Lib.hid hb
      clear hb HA
      go_wp2_with fail
      refine (HSL.out w1 HB.out).mono ?_
      rintro e w2 ⟨rfl, hw⟩
      subst w2
      clear HSL
      go_wp2_with fail
      refine (HBU.out w1 HB.out).mono ?_
      intro e w2 hbt
      obtain ⟨rfl, hb⟩ := built_no hbt HNO.out
      have HB2 := Lib.hid (below_on HB.out hb HB.out.size)
      clear hbt hb HBU
      go_wp2
      go_ret
      exact ⟨rfl, HB2.out⟩
  · simp only [decide_eq_false hs] at HSL
    clear hs
    go_enter Try.func6, Try.ntmps6
    go_wp2_with fail
    refine HA.out.mono ?_
    rintro e w1 ⟨rfl, hb⟩
    have HB := Lib.hid hb
    clear hb HA
    go_wp2_with fail
    refine (HSL.out w1 HB.out).mono ?_
    rintro e w2 ⟨rfl, hw⟩
    subst w2
    clear HSL
    go_wp2
    go_ret
    exact ⟨rfl, HB.out⟩

theorem own : ownKnob Try.prog.godebug = none := by kernel_rfl
theorem laid : laidOutB Try.prog = true := by kernel_rfl

set_option maxRecDepth 100000 in
theorem lifted (os : Os) (started : os.Started) (H : Type) (enc : TypeId × Value → H) :
    ReturnsInHanded {} Try.checked os 6 .any (Rows.pageBackSpec.pre6 enc Try.prog Try.f6 Rows.pageBackRow.domain false) (Rows.pageBackSpec.post enc Try.prog Try.f6 false true false false) := by
  refine returnsInHanded_of_change (C := Try.checked) own started (by kernel_rfl) Try.func6
    (ChangeSpec.witness6 (enc := enc) (C := Try.checked) false ⟨#[], #[.int .i64 0, .slice none 0 0], []⟩ 8 (by kernel_rfl) (by kernel_rfl) (by kernel_rfl) (by kernel_rfl)) ?_
  intro W base args ds gs before hval0 hW _ _
  have hval : ∀ (j : Nat) t v, Try.f6.params[j]? = some t → args[j]? = some v → Value.okWide Try.prog W .any base t v := hval0
  have hW' := hW
  obtain ⟨p, q, hA0, hV, rfl, hfz, hnd⟩ := hW
  have hA : DataW.TrodAll enc Try.prog W 0 (fun _ => true) true Try.f6.params.toList args.toList ds p := hA0
  rw [Try.params6] at hA hval
  obtain ⟨v0, v1, d0, d1, p0, p1, rfl, rfl, rfl, h0, h1⟩ := trodAll_two hA
  obtain ⟨a0, rfl, rfl, rfl, wf0⟩ := open_int Try.underlying3 (hval 0 3 v0 rfl rfl) h0
  have hb0 : -9223372036854775808 ≤ a0 ∧ a0 ≤ 9223372036854775807 := by simpa [Lit.wf, IntKind.min, IntKind.max, IntKind.signed, IntKind.bits] using wf0
  obtain ⟨A1, n1, c1, l1, rfl, hnc1, hcm1, hr1⟩ := PageOps.open_slots (hval 1 22 v1 rfl rfl) h1
  refine (walk a0 A1 n1 c1 l1 W hb0.1 hb0.2 hnc1 hcm1 hr1).mono fun e W' ⟨he, hb⟩ => ?_
  subst he
  exact ⟨_, rfl, Law.post laid (by kernel_rfl) (by kernel_rfl) Try.underlying4 rfl hW' rfl hb⟩

theorem proved : Rows.PageBackSaid :=
  OpenClaim.holds_of_wide 6 Try.f6 rfl rfl rfl rfl rfl rfl rfl ⟨rfl, rfl, rfl, rfl, rfl⟩ rfl rfl rfl rfl rfl (by kernel_rfl) Try.func6 (by kernel_rfl)
    (of_decide_eq_true (by kernel_rfl)) (by unfold Func.isWrapper; first | (rw [if_pos (by decide +kernel)]; kernel_rfl) | (rw [if_neg (by decide +kernel)]; exact ⟨rfl, rfl⟩))
    (fun os started H enc _ => lifted os started H enc)

end Go.Proofs.Yteonjdigcecceaa.pageBack
