/-
  GatePlays holds: any calls, one by one. No condition. Printed by plays.py.
-/
import Derived.Test.YtldomhghkfbbkaaGateTwo
import Derived.Deep.DeepCutAuto
import Derived.Deep.RegionHeld
namespace Go.Proofs.Ytldomhghkfbbkaa.gatePlays
open Go.RowKit Go.ChangeShapes Go.WideShapes Gate GatePkg GateRef GateLaw GateOps Lib
set_option maxRecDepth 4000

theorem left_1 (a b : Nat) : left a b 1 = a := by simp [left]
theorem left_2 (a b : Nat) : left a b 2 = b := by simp [left]
abbrev opO (x0 x1 x2 x3 x4 : Int) : Obj := .cells #[.int .i64 x0, .int .i64 x1, .int .i64 x2, .int .i64 x3, .int .i64 x4] 38 (0, 0)

theorem cells5 {w : World} {b : Nat} {x0 x1 x2 x3 x4 : Value} {t : TypeId} (h : w.heap[b]? = some (.cells #[x0, x1, x2, x3, x4] t (0, 0))) : w.cell? ⟨b, 0, none⟩ = some x0 ∧ w.cell? ⟨b, 1, none⟩ = some x1 ∧ w.cell? ⟨b, 2, none⟩ = some x2 ∧ w.cell? ⟨b, 2 + 1, none⟩ = some x3 ∧ w.cell? ⟨b, 2 + 2, none⟩ = some x4 := by
  refine ⟨?_, ?_, ?_, ?_, ?_⟩ <;> simp [World.cell?, h]

set_option maxHeartbeats 8000000 in
theorem walk (many : Int) (A : Option Addr) (n c : Nat) (w : World) (h0 : -9223372036854775808 ≤ many) (h1 : many ≤ 9223372036854775807) (hnc : n ≤ c) (hcm : c ≤ maxLen) (hr : Ops w w.heap.size A n) :
    Calls Try.prog 5 #[.int .i64 many, .slice A n c] w fun e w' => e = .returned (.bool true) ∧ Below w.heap.size w w' := by
  have hnm := Nat.le_trans hnc hcm
  unfold maxLen at hnm
  clear hnc hcm
  have HA := Lib.hid (fun W => awake_any W)
  by_cases hm : many < 1 ∨ 256 < many
  · have HN := Lib.hid (fun W => New_bad many hm W)
    have HR := Lib.hid (fun W => rNew_bad many hm W)
    have b0 : decide ((0 : Int) < (n : Int)) = decide (0 < n) := by simp
    obtain ⟨bn, hbn⟩ : ∃ bn, decide (0 < n) = bn := ⟨_, rfl⟩
    rw [hbn] at b0
    clear hr hm h0 h1
    go_enter Try.func5, Try.ntmps5
    go_wp2_with (first | (refine (HA.out _).mono ?_; rintro e w1 ⟨rfl, hw⟩; subst w1; clear HA) | (refine (HN.out _).mono ?_; rintro e w1 ⟨rfl, hw⟩; subst w1; clear HN) | (refine (HR.out _).mono ?_; rintro e w1 ⟨rfl, hw⟩; subst w1; clear HR))
    go_loopw [10] (fun i wr => i = .int .i64 0 ∧ wr = w) (fun _ _ => 0)
    case atStart => exact ⟨rfl, rfl⟩
    case round =>
      obtain ⟨rfl, rfl⟩ := hrel
      cases bn with
      | true =>
        go_wp2
        go_ret
        exact ⟨by first | rfl | simp, Below.refl _ _⟩
      | false =>
        go_wp2
        go_ret
        exact ⟨by first | rfl | simp, Below.refl _ _⟩
  obtain ⟨M, rfl⟩ : ∃ M : Nat, many = M := ⟨many.toNat, by omega⟩
  have HN := Lib.hid (fun W => New_ok M (by omega) (by omega) W)
  have HRN := Lib.hid (fun W => rNew_ok M (by omega) (by omega) W)
  have HR := Lib.hid hr
  clear hr hm h0 h1
  go_enter Try.func5, Try.ntmps5
  go_wp2_with fail
  refine (HA.out _).mono ?_
  rintro e w1 ⟨rfl, hw⟩
  subst w1
  clear HA
  go_wp2_with fail
  refine (HN.out _).mono ?_
  rintro e w2 ⟨v, rfl, g, c1, c2, rfl, hg, hcc, hd, hG, hb2⟩
  have HG := Lib.hid hG
  have HB2 := Lib.hid hb2
  have HLE := Lib.hid (And.intro hg (And.intro hcc hd))
  clear HN hG hb2 hg hcc hd
  go_wp2_with fail
  refine (HRN.out _).mono ?_
  rintro e w3 ⟨rfl, hr3, hb3⟩
  have HT := Lib.hid (two_new HLE.out.1 HLE.out.2.1 HLE.out.2.2 HG.out HB2.out hr3 hb3)
  clear HRN HG HB2 HLE hr3 hb3
  generalize w2.heap.size = q at *
  go_wp2_with fail
  go_loopw [10] (fun i wr => ∃ t a b : Nat, i = .int .i64 (t : Int) ∧ t ≤ n ∧ t ≤ 300 ∧ Two w wr g c1 c2 q M a b a b) (fun i _ => n - (intOf i).toNat)
  case atStart => exact ⟨0, 0, 0, rfl, Nat.zero_le _, Nat.zero_le _, HT.out⟩
  case round =>
    clear HT
    obtain ⟨t, a, b, rfl, htn, ht3, hT⟩ := hrel
    have HTN := Lib.hid (And.intro htn ht3)
    have HSZ := Lib.hid hT.size
    by_cases hlt : t < n
    · by_cases hl3 : t < 300
      · have b1 : decide ((t : Int) < (n : Int)) = true := by simp; omega
        have b1n : decide (t < n) = true := by simp; omega
        have b2 : decide ((t : Int) < 300) = true := by simp; omega
        obtain ⟨bk, off, x0, x1, x2, x3, x4, rfl, ho⟩ := HR.out t hlt
        have ho2 := ho.keep hT.below
        have o0 := ho2.c0
        have o1 := ho2.c1
        have o2 := ho2.c2
        have o3 := ho2.c3
        have o4 := ho2.c4
        have HB64 := Lib.hid ho.b2
        have hwi : IntKind.i64.wrap ((t : Int) + 1) = ((t + 1 : Nat) : Int) := by rw [IntKind.wrap_i64]; omega
        have HL := Lib.hid (hT.lay #[.int .i64 x0, .int .i64 x1, .int .i64 x2, .int .i64 x3, .int .i64 x4] 38)
        clear ho ho2 hT htn ht3
        go_upto_region 10 with fail
        have HX : Hid (True) := Lib.hid trivial
        generalize wr.alloc (.cells #[.int .i64 x0, .int .i64 x1, .int .i64 x2, .int .i64 x3, .int .i64 x4] 38) = W at HL ⊢
        generalize wr.heap.size = X at HL ⊢
        clear o0 o1 o2 o3 o4 HX
        have HL : Hid (Beside w W g c1 c2 q M a b a b X (opO x0 x1 x2 x3 x4)) := HL
        have HM := Lib.hid HL.out.drew
        obtain ⟨c0, _, _, _, _⟩ := cells5 HL.out.box
        by_cases hx : x0 = 0 ∨ x0 = 1 ∨ x0 = 2
        · obtain ⟨bb, hbb⟩ : ∃ bb, decide (0 < left a b x1) = bb := ⟨_, rfl⟩
          obtain ⟨a1, ha1⟩ : ∃ a1, take1 a x1 = a1 := ⟨_, rfl⟩
          obtain ⟨b1', hb1'⟩ : ∃ b1', take2 b x1 = b1' := ⟨_, rfl⟩
          have TG := fun W (h : Beside w W g c1 c2 q M a b a b X (opO x0 x1 x2 x3 x4)) => TakeG h x1
          have TR := fun W (h : Beside w W g c1 c2 q M a1 b1' a b X (opO x0 x1 x2 x3 x4)) => TakeR h HSZ.out.1 HSZ.out.2.1 x1
          rw [hbb, ha1, hb1'] at TG TR
          have HTG := Lib.hid TG
          have HTR := Lib.hid TR
          clear TG TR hbb ha1 hb1'
          rcases hx with rfl | rfl | rfl
          all_goals
            go_wp2_with fail
            go_region_held (fun w' => w'.cell? ⟨X, 1, none⟩ = some (.int .i64 x1))
              (first | exact (cells5 HM.out.box).2.1)
              (first
                | (go_at_call 13; refine (HTG.out _ HM.out).mono ?_; rintro e5 w5 ⟨rfl, h⟩; replace HM := Lib.hid h; clear h HTG)
                | (go_at_call 14; refine (HTR.out _ HM.out).mono ?_; rintro e5 w5 ⟨rfl, h⟩; replace HM := Lib.hid h; clear h HTR))
            all_goals
              have K1 := Left_any HM.out.gt 1
              have K2 := rLeft_any HM.out.rt 1
              have K3 := Left_any HM.out.gt 2
              have K4 := rLeft_any HM.out.rt 2
              rw [left_1] at K1 K2
              rw [left_2] at K3 K4
              have HK1 := Lib.hid K1
              have HK2 := Lib.hid K2
              have HK3 := Lib.hid K3
              have HK4 := Lib.hid K4
              clear K1 K2 K3 K4
              go_wp2_with (first | (refine HK1.out.mono ?_; rintro e6 w6 ⟨rfl, hw⟩; subst w6; clear HK1) | (refine HK2.out.mono ?_; rintro e6 w6 ⟨rfl, hw⟩; subst w6; clear HK2) | (refine HK3.out.mono ?_; rintro e6 w6 ⟨rfl, hw⟩; subst w6; clear HK3) | (refine HK4.out.mono ?_; rintro e6 w6 ⟨rfl, hw⟩; subst w6; clear HK4))
              go_roundw
              case rel => exact ⟨t + 1, _, _, rfl, by have := HTN.out; omega, by omega, HM.out.toTwo⟩
              case measure => simp [intOf]; omega
        by_cases hx3 : x0 = 3
        · subst hx3
          obtain ⟨zz, hzz⟩ : ∃ zz, left a b x1 = zz := ⟨_, rfl⟩
          have TG := fun W (h : Beside w W g c1 c2 q M a b a b X (opO 3 x1 x2 x3 x4)) => Left_any h.gt x1
          have TR := fun W (h : Beside w W g c1 c2 q M a b a b X (opO 3 x1 x2 x3 x4)) => rLeft_any h.rt x1
          rw [hzz] at TG TR
          have HTG := Lib.hid TG
          have HTR := Lib.hid TR
          clear TG TR hzz
          go_wp2_with fail
          go_region_held (fun w' => w'.cell? ⟨X, 1, none⟩ = some (.int .i64 x1))
            (first | exact (cells5 HM.out.box).2.1)
            (first
              | (go_at_call 15; refine (HTG.out _ HM.out).mono ?_; rintro e5 w5 ⟨rfl, hw⟩; subst w5; clear HTG)
              | (go_at_call 16; refine (HTR.out _ HM.out).mono ?_; rintro e5 w5 ⟨rfl, hw⟩; subst w5; clear HTR))
          all_goals
            have K1 := Left_any HM.out.gt 1
            have K2 := rLeft_any HM.out.rt 1
            have K3 := Left_any HM.out.gt 2
            have K4 := rLeft_any HM.out.rt 2
            rw [left_1] at K1 K2
            rw [left_2] at K3 K4
            have HK1 := Lib.hid K1
            have HK2 := Lib.hid K2
            have HK3 := Lib.hid K3
            have HK4 := Lib.hid K4
            clear K1 K2 K3 K4
            go_wp2_with (first | (refine HK1.out.mono ?_; rintro e6 w6 ⟨rfl, hw⟩; subst w6; clear HK1) | (refine HK2.out.mono ?_; rintro e6 w6 ⟨rfl, hw⟩; subst w6; clear HK2) | (refine HK3.out.mono ?_; rintro e6 w6 ⟨rfl, hw⟩; subst w6; clear HK3) | (refine HK4.out.mono ?_; rintro e6 w6 ⟨rfl, hw⟩; subst w6; clear HK4))
            go_roundw
            case rel => exact ⟨t + 1, _, _, rfl, by have := HTN.out; omega, by omega, HM.out.toTwo⟩
            case measure => simp [intOf]; omega
        by_cases hx4 : x0 = 4
        · subst hx4
          have TG := FillG HL.out x2 x3 x4
          obtain ⟨c0, e1, e2, e3, e4⟩ := cells5 HL.out.box
          go_wp2_with fail
          refine TG.mono ?_
          rintro e5 w5 ⟨rfl, h⟩
          clear TG c0 e1 e2 e3 e4 HM
          have TR := FillR h x2 x3 x4 HB64.out.1 HB64.out.2
          obtain ⟨c0, e1, e2, e3, e4⟩ := cells5 h.box
          clear h
          generalize (fst x2 x3 x4 (M : Int)).toNat = a1 at *
          generalize (snd x2 x3 x4 (M : Int)).toNat = b1' at *
          go_wp2_with fail
          refine TR.mono ?_
          rintro e6 w6 ⟨rfl, h⟩
          have HM := Lib.hid h
          clear TR c0 e1 e2 e3 e4 h
          have K1 := Left_any HM.out.gt 1
          have K2 := rLeft_any HM.out.rt 1
          have K3 := Left_any HM.out.gt 2
          have K4 := rLeft_any HM.out.rt 2
          rw [left_1] at K1 K2
          rw [left_2] at K3 K4
          have HK1 := Lib.hid K1
          have HK2 := Lib.hid K2
          have HK3 := Lib.hid K3
          have HK4 := Lib.hid K4
          clear K1 K2 K3 K4
          go_wp2_with (first | (refine HK1.out.mono ?_; rintro e6 w6 ⟨rfl, hw⟩; subst w6; clear HK1) | (refine HK2.out.mono ?_; rintro e6 w6 ⟨rfl, hw⟩; subst w6; clear HK2) | (refine HK3.out.mono ?_; rintro e6 w6 ⟨rfl, hw⟩; subst w6; clear HK3) | (refine HK4.out.mono ?_; rintro e6 w6 ⟨rfl, hw⟩; subst w6; clear HK4))
          go_roundw
          case rel => exact ⟨t + 1, _, _, rfl, by have := HTN.out; omega, by omega, HM.out.toTwo⟩
          case measure => simp [intOf]; omega
        have g0 : (x0 == 0) = false := by simp; omega
        have g1 : (x0 == 1) = false := by simp; omega
        have g2 : (x0 == 2) = false := by simp; omega
        have g3 : (x0 == 3) = false := by simp; omega
        have g4 : (x0 == 4) = false := by simp; omega
        clear hx hx3 hx4
        replace HM := HL
        have K1 := Left_any HM.out.gt 1
        have K2 := rLeft_any HM.out.rt 1
        have K3 := Left_any HM.out.gt 2
        have K4 := rLeft_any HM.out.rt 2
        rw [left_1] at K1 K2
        rw [left_2] at K3 K4
        have HK1 := Lib.hid K1
        have HK2 := Lib.hid K2
        have HK3 := Lib.hid K3
        have HK4 := Lib.hid K4
        clear K1 K2 K3 K4
        go_wp2_with (first | (refine HK1.out.mono ?_; rintro e6 w6 ⟨rfl, hw⟩; subst w6; clear HK1) | (refine HK2.out.mono ?_; rintro e6 w6 ⟨rfl, hw⟩; subst w6; clear HK2) | (refine HK3.out.mono ?_; rintro e6 w6 ⟨rfl, hw⟩; subst w6; clear HK3) | (refine HK4.out.mono ?_; rintro e6 w6 ⟨rfl, hw⟩; subst w6; clear HK4))
        go_roundw
        case rel => exact ⟨t + 1, _, _, rfl, by have := HTN.out; omega, by omega, HM.out.toTwo⟩
        case measure => simp [intOf]; omega
      · have b1 : decide ((t : Int) < (n : Int)) = true := by simp; omega
        have b1n : decide (t < n) = true := by simp; omega
        have b2 : decide ((t : Int) < 300) = false := by simp; omega
        have HB := Lib.hid hT.below
        clear hT htn ht3
        go_wp2
        go_ret
        exact ⟨by first | rfl | simp, HB.out⟩
    · have b1 : decide ((t : Int) < (n : Int)) = false := by simp; omega
      have b1n : decide (t < n) = false := by simp; omega
      have HB := Lib.hid hT.below
      clear hT htn ht3
      go_wp2
      go_ret
      exact ⟨by first | rfl | simp, HB.out⟩

theorem own : ownKnob Try.prog.godebug = none := by kernel_rfl
theorem laid : laidOutB Try.prog = true := by kernel_rfl

set_option maxRecDepth 100000 in
theorem lifted (os : Os) (started : os.Started) (H : Type) (enc : TypeId × Value → H) :
    ReturnsInHanded {} Try.checked os 5 .any (Rows.gatePlaysSpec.pre6 enc Try.prog Try.f5 Rows.gatePlaysRow.domain false) (Rows.gatePlaysSpec.post enc Try.prog Try.f5 false true false false) := by
  refine returnsInHanded_of_change (C := Try.checked) own started (by kernel_rfl) Try.func5
    (ChangeSpec.witness6 (enc := enc) (C := Try.checked) false ⟨#[], #[.int .i64 0, .slice none 0 0], []⟩ 8 (by kernel_rfl) (by kernel_rfl) (by kernel_rfl) (by kernel_rfl)) ?_
  intro W base args ds gs before hval0 hW _ _
  have hval : ∀ (j : Nat) t v, Try.f5.params[j]? = some t → args[j]? = some v → Value.okWide Try.prog W .any base t v := hval0
  have hW' := hW
  obtain ⟨p, q, hA0, hV, rfl, hfz, hnd⟩ := hW
  have hA : DataW.TrodAll enc Try.prog W 0 (fun _ => true) true Try.f5.params.toList args.toList ds p := hA0
  rw [Try.params5] at hA hval
  obtain ⟨v0, v1, d0, d1, p0, p1, rfl, rfl, rfl, h0, h1⟩ := trodAll_two hA
  obtain ⟨a0, rfl, rfl, rfl, wf0⟩ := open_int Try.underlying3 (hval 0 3 v0 rfl rfl) h0
  have hb0 : -9223372036854775808 ≤ a0 ∧ a0 ≤ 9223372036854775807 := by simpa [Lit.wf, IntKind.min, IntKind.max, IntKind.signed, IntKind.bits] using wf0
  obtain ⟨A1, n1, c1, rfl, hnc1, hcm1, hr1⟩ := GateOps.open_ops (hval 1 28 v1 rfl rfl) h1
  refine (walk a0 A1 n1 c1 W hb0.1 hb0.2 hnc1 hcm1 hr1).mono fun e W' ⟨he, hb⟩ => ?_
  subst he
  exact ⟨_, rfl, Law.post laid (by kernel_rfl) (by kernel_rfl) Try.underlying4 rfl hW' rfl hb⟩

theorem proved : Rows.GatePlaysSaid :=
  OpenClaim.holds_of_wide 5 Try.f5 rfl rfl rfl rfl rfl rfl rfl ⟨rfl, rfl, rfl, rfl, rfl⟩ rfl rfl rfl rfl rfl (by kernel_rfl) Try.func5 (by kernel_rfl)
    (of_decide_eq_true (by kernel_rfl)) (by unfold Func.isWrapper; first | (rw [if_pos (by decide +kernel)]; kernel_rfl) | (rw [if_neg (by decide +kernel)]; exact ⟨rfl, rfl⟩))
    (fun os started H enc _ => lifted os started H enc)

end Go.Proofs.Ytldomhghkfbbkaa.gatePlays
