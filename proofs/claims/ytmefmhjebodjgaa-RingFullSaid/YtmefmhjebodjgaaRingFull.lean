/-
  RingFull holds: there is room for just so many slots, till some are gone; one that is refused changes nothing; for every size and every number. No condition.
-/
import Derived.Test.YtmefmhjebodjgaaRingKit
import Derived.Test.YtmefmhjebodjgaaLawKit
import Derived.OpenShut
import Derived.Test.YtmefmhjebodjgaaRingSame
import Derived.Test.YtmefmhjebodjgaaRingSt
namespace Go.Proofs.Ytmefmhjebodjgaa.ringFull
open Go.RowKit Go.ChangeShapes Go.WideShapes Ring RingPkg RingLaw
set_option maxRecDepth 4000

/-- N slots, all out, of which those from a on, below b, are done. -/
def ful (N a b : Nat) : All := (List.range N).map fun (i : Nat) => (lbaSlot i, if a ≤ i ∧ i < b then 2 else 1)
theorem ful_len (N a b : Nat) : (ful N a b).length = N := by simp [ful]
theorem ful_at (N a b i : Nat) (h : i < N) : (ful N a b)[i]? = some (lbaSlot i, if a ≤ i ∧ i < b then 2 else 1) := by simp [ful, h]
theorem ful_tl (N a b : Nat) (hb : b ≤ N) (_ha : a ≤ b) : tl (ful N a b) = if a = 0 then b else 0 := by
  by_cases h : a = 0
  · rw [if_pos h]
    refine tl_is _ _ (by rw [ful_len]; exact hb) (fun x hx => ?_) (fun x hx => ?_)
    · obtain ⟨j, hj⟩ := List.getElem?_of_mem hx
      rw [List.getElem?_take] at hj
      split at hj
      · rw [ful_at N a b j (by omega)] at hj
        injection hj with hj
        rw [← hj, if_pos (by omega)]
      · cases hj
    · rcases Nat.lt_or_ge b N with hbN | hbN
      · rw [ful_at N a b b hbN] at hx
        injection hx with hx
        rw [← hx, if_neg (by omega)]
        show (1 : Int) ≠ 2
        decide
      · rw [List.getElem?_eq_none (by rw [ful_len]; exact hbN)] at hx
        cases hx
  · rw [if_neg h]
    refine tl_is _ 0 (Nat.zero_le _) (fun x hx => by simp at hx) (fun x hx => ?_)
    rcases Nat.lt_or_ge 0 N with hN | hN
    · rw [ful_at N a b 0 hN] at hx
      injection hx with hx
      rw [← hx, if_neg (by omega)]
      show (1 : Int) ≠ 2
      decide
    · rw [List.getElem?_eq_none (by rw [ful_len]; exact hN)] at hx
      cases hx
theorem ful_done (N a b : Nat) (ha : a + 1 ≤ b) (_hb : b ≤ N) : (ful N (a + 1) b).modify a (out 2) = ful N a b := by
  apply List.ext_getElem?
  intro j
  rw [List.getElem?_modify]
  rcases Nat.lt_or_ge j N with hj | hj
  · rw [ful_at N _ b j hj, ful_at N a b j hj]
    by_cases e : a = j
    · subst e
      simp [out]
      omega
    · have e2 : (a + 1 ≤ j ∧ j < b) ↔ (a ≤ j ∧ j < b) := by omega
      simp [e, e2]
  · rw [List.getElem?_eq_none (by rw [ful_len]; exact hj), List.getElem?_eq_none (by rw [ful_len]; exact hj)]
    rfl
theorem ful_taken (N b : Nat) : stt N N = ful N b b := by
  apply List.ext_getElem?
  intro j
  rcases Nat.lt_or_ge j N with hj | hj
  · rw [ful_at N _ b j hj, stt_at N N j hj, if_pos hj, if_neg (by omega)]
  · rw [List.getElem?_eq_none (by rw [stt_len]; exact hj), List.getElem?_eq_none (by rw [ful_len]; exact hj)]

set_option maxHeartbeats 4000000 in
theorem walk (size done : Int) (w : World) (_hz0 : -9223372036854775808 ≤ size) (_hz1 : size ≤ 9223372036854775807) (hd0 : -9223372036854775808 ≤ done) (hd1 : done ≤ 9223372036854775807) :
    Calls Try.prog 9 #[.int .i64 size, .int .i64 done] w fun e w' => e = .returned (.bool true) ∧ Below w.heap.size w w' := by
  clear _hz0 _hz1
  by_cases hin : 1 ≤ size ∧ size ≤ 256
  rotate_left
  · have H1 := Lib.hid (fun w => New_out size w hin)
    by_cases hs1 : size < 1
    · clear hin
      go_enter Try.func9, Try.ntmps9
      go_wp2_with fail
      refine (awake_any _).mono ?_
      rintro e w1 ⟨rfl, hb⟩
      have HB := Lib.hid hb
      clear hb
      go_wp2_with fail
      refine (H1.out _).mono ?_
      rintro e w2 ⟨rfl, hw⟩
      subst w2
      go_wp2
      go_ret
      exact ⟨rfl, HB.out⟩
    · have hs2 : 256 < size := by omega
      clear hin
      go_enter Try.func9, Try.ntmps9
      go_wp2_with fail
      refine (awake_any _).mono ?_
      rintro e w1 ⟨rfl, hb⟩
      have HB := Lib.hid hb
      clear hb
      go_wp2_with fail
      refine (H1.out _).mono ?_
      rintro e w2 ⟨rfl, hw⟩
      subst w2
      go_wp2
      go_ret
      exact ⟨rfl, HB.out⟩
  obtain ⟨hs1, hs2⟩ := hin
  obtain ⟨N, rfl⟩ := Int.eq_ofNat_of_zero_le (show 0 ≤ size by omega)
  go_enter Try.func9, Try.ntmps9
  go_wp2_with fail
  refine (awake_any _).mono ?_
  rintro e w1 ⟨rfl, hb⟩
  have HB := Lib.hid hb
  clear hb
  go_wp2_with fail
  refine (New_m w w1 HB.out N hs1 hs2).mono ?_
  rintro e w2 ⟨gd, rfl, h⟩
  have H := Lib.hid h
  clear h HB
  go_wp2
  go_loopw [8] (fun i wr => ∃ k : Nat, k ≤ N ∧ i = .int .i64 k ∧ Mine w gd N (stt k 0) wr) (fun i _ => N - (intOf i).toNat)
  case atStart => exact ⟨0, by omega, rfl, H.out⟩
  case round =>
    obtain ⟨k, hk, rfl, h⟩ := hrel
    replace H := Lib.hid h
    clear h
    by_cases hlt : k < N
    · have HP := Lib.hid (Put_m H.out (by rw [stt_len]; omega) (by omega) (by omega) (by rw [stt_len, stt_tl]; omega) (lbaSlot k) none 0 0 (by omega) (bytes_none _ _))
      rw [stt_len] at HP
      go_wp2_with fail
      refine HP.out.mono ?_
      rintro e w3 ⟨rfl, h⟩
      have h2 : Mine w gd N (stt (k + 1) 0) w3 := by rw [stt_snoc]; exact h
      replace H := Lib.hid h2
      clear h h2 HP
      have hF := Free_m H.out (by rw [stt_len]; omega) (by omega) (by omega)
      rw [stt_len, stt_tl, show (N : Int) - ((k + 1 : Nat) : Int) + ((0 : Nat) : Int) = (N : Int) - 1 - k by omega] at hF
      have HF := Lib.hid hF
      clear hF
      go_wp2_with fail
      refine HF.out.mono ?_
      rintro e w4 ⟨rfl, h⟩
      replace H := Lib.hid h
      clear h HF
      go_wp2
      go_roundw
      case rel => exact ⟨k + 1, by omega, by go_num, H.out⟩
      case measure => simp [intOf]; omega
    · obtain rfl : k = N := by omega
      have HP := Lib.hid (Put_full_m H.out (by rw [stt_len]; omega) (by omega) (by omega) (by rw [stt_len, stt_tl]; omega) (lbaSlot (-7)) (.slice none 0 0) ⟨_, _, _, rfl⟩)
      go_wp2_with fail
      refine HP.out.mono ?_
      rintro e w3 ⟨rfl, h⟩
      replace H := Lib.hid h
      clear h HP
      have hH := Head_m H.out (by rw [stt_len]; omega)
      rw [stt_len] at hH
      go_wp2_with fail
      refine hH.mono ?_
      rintro e w4 ⟨rfl, h⟩
      replace H := Lib.hid h
      clear h hH
      have hW := Waiting_m H.out (by rw [stt_len]; omega)
      rw [stt_sel, List.length_range', Nat.sub_zero] at hW
      go_wp2_with fail
      refine hW.mono ?_
      rintro e w5 ⟨rfl, h⟩
      replace H := Lib.hid h
      clear h hW
      by_cases hdn : 0 ≤ done ∧ done ≤ k
      rotate_left
      · have hor : done < 0 ∨ (¬ done < 0 ∧ (k : Int) < done) := by omega
        clear hdn
        rcases hor with hor | ⟨hor, hor2⟩
        all_goals
          go_wp2
          go_ret
          exact ⟨rfl, H.out.below⟩
      obtain ⟨hdn0, hdn1⟩ := hdn
      obtain ⟨D, rfl⟩ := Int.eq_ofNat_of_zero_le hdn0
      have hT := Take_m H.out (by rw [stt_len]; omega) k
      rw [stt_sel, Nat.sub_zero, Int.toNat_natCast, take_range', Nat.min_self, stt_mark, Nat.zero_add, ful_taken k D] at hT
      have HT := Lib.hid hT
      clear hT
      go_wp2_with fail
      refine HT.out.mono ?_
      rintro e w6 ⟨u, rfl, ho, h⟩
      obtain ⟨A6, m6, c6, rfl⟩ := ho.form
      replace H := Lib.hid h
      clear ho h HT
      go_wp2
      go_loopw [13] (fun i wr => ∃ q : Nat, q ≤ D ∧ i = .int .i64 ((q : Int) - 1) ∧ Mine w gd k (ful k q D) wr) (fun i _ => (intOf i + 1).toNat)
      case atStart => exact ⟨D, by omega, rfl, H.out⟩
      case round =>
        obtain ⟨q, hq, rfl, h⟩ := hrel
        replace H := Lib.hid h
        clear h
        by_cases hq0 : 0 < q
        · obtain ⟨p, rfl⟩ : ∃ p, q = p + 1 := ⟨q - 1, by omega⟩
          rw [show ((p + 1 : Nat) : Int) - 1 = (p : Int) by omega]
          have hF := Free_m H.out (by rw [ful_len]; omega) (by omega) (by omega)
          rw [ful_len, ful_tl k (p + 1) D (by omega) (by omega), if_neg (by omega), show (k : Int) - (k : Int) + ((0 : Nat) : Int) = 0 by omega] at hF
          have HF := Lib.hid hF
          clear hF
          go_wp2_with fail
          refine HF.out.mono ?_
          rintro e w7 ⟨rfl, h⟩
          replace H := Lib.hid h
          clear h HF
          have hDo := Done_m H.out (by rw [ful_len]; omega) p _ (by rw [ful_tl k (p + 1) D (by omega) (by omega), if_neg (by omega)]; exact Nat.zero_le _) (ful_at k (p + 1) D p (by omega)) (by show (if p + 1 ≤ p ∧ p < D then (2 : Int) else 1) = 1; rw [if_neg (by omega)])
          rw [ful_done k p D (by omega) (by omega)] at hDo
          have HDO := Lib.hid hDo
          clear hDo
          go_wp2_with fail
          refine HDO.out.mono ?_
          rintro e w8 ⟨rfl, h⟩
          replace H := Lib.hid h
          clear h HDO
          go_wp2
          go_roundw
          case rel => exact ⟨p, by omega, by go_num, H.out⟩
          case measure => simp [intOf]
        · obtain rfl : q = 0 := by omega
          rw [show ((0 : Nat) : Int) - 1 = -1 by omega]
          have hF := Free_m H.out (by rw [ful_len]; omega) (by omega) (by omega)
          rw [ful_len, ful_tl k 0 D (by omega) (by omega), if_pos rfl, show (k : Int) - (k : Int) + (D : Int) = D by omega] at hF
          have HF := Lib.hid hF
          clear hF
          go_wp2_with fail
          refine HF.out.mono ?_
          rintro e w7 ⟨rfl, h⟩
          replace H := Lib.hid h
          clear h HF
          have hTl := Tail_m H.out
          rw [ful_tl k 0 D (by omega) (by omega), if_pos rfl] at hTl
          have HTL := Lib.hid hTl
          clear hTl
          go_wp2_with fail
          refine HTL.out.mono ?_
          rintro e w8 ⟨rfl, h⟩
          replace H := Lib.hid h
          clear h HTL
          go_wp2
          go_loopw [14] (fun i wr => ∃ q : Nat, q ≤ k ∧ i = .int .i64 q ∧ Mine w gd k (ful k 0 D) wr) (fun i _ => k - (intOf i).toNat)
          case atStart => exact ⟨0, by omega, rfl, H.out⟩
          case round =>
            obtain ⟨q, hq, rfl, h⟩ := hrel
            replace H := Lib.hid h
            clear h
            by_cases hqk : q < k
            · by_cases hqD : D ≤ q
              · have hG := Get_m H.out (by rw [ful_len]; omega) q _ (by rw [ful_tl k 0 D (by omega) (by omega), if_pos rfl]; exact hqD) (ful_at k 0 D q hqk)
                simp only at hG
                have HG := Lib.hid hG
                clear hG
                go_wp2_with fail
                refine HG.out.mono ?_
                rintro e w9 ⟨v, rfl, ho, _, h⟩
                obtain ⟨A9, c9, rfl, hr9⟩ := ho.reads
                replace H := Lib.hid h
                have HR9 : Hid (Bytes w9 w9.heap.size A9 0 []) := Lib.hid hr9
                clear h ho hr9 HG
                have hb9 := (Below.refl w9.heap.size w9).alloc (Nat.le_refl _) (.cells #[.int .i64 0, .int .i64 q, .int .i64 0, .slice A9 0 c9, .int .i64 0] 35)
                have HS := Lib.hid (Same_eq (lbaSlot q) A9 none 0 c9 0 _ (bytes_more (bytes_keep HR9.out hb9) hb9.size) (bytes_none _ _))
                replace H := Lib.hid (H.out.on hb9)
                clear hb9 HR9
                go_wp2_with fail
                refine HS.out.mono ?_
                rintro e w10 ⟨rfl, hb⟩
                replace H := Lib.hid (H.out.on hb)
                clear hb HS
                go_wp2
                go_roundw
                case rel => exact ⟨q + 1, by omega, by go_num, H.out⟩
                case measure => simp [intOf]; omega
              · have hG := Get_none_m H.out (by rw [ful_len]; omega) q (by unfold there; rw [ful_len, ful_tl k 0 D (by omega) (by omega), if_pos rfl]; omega)
                have HG := Lib.hid hG
                clear hG
                go_wp2_with fail
                refine HG.out.mono ?_
                rintro e w9 ⟨rfl, h⟩
                replace H := Lib.hid h
                clear h HG
                have hb9 := (Below.refl w9.heap.size w9).alloc (Nat.le_refl _) (.cells #[.int .i64 0, .int .i64 0, .int .i64 0, .slice none 0 0, .int .i64 0] 35)
                have HS : Hid (∃ b, Calls Try.prog 29 #[.agg #[.int .i64 0, .int .i64 0, .int .i64 0, .slice none 0 0, .int .i64 0], .agg #[.int .i64 0, .int .i64 q, .int .i64 0, .slice none 0 0, .int .i64 0]] (w9.alloc (.cells #[.int .i64 0, .int .i64 0, .int .i64 0, .slice none 0 0, .int .i64 0] 35)) fun e w' => e = .returned (.bool b) ∧ Below (w9.alloc (.cells #[.int .i64 0, .int .i64 0, .int .i64 0, .slice none 0 0, .int .i64 0] 35)).heap.size (w9.alloc (.cells #[.int .i64 0, .int .i64 0, .int .i64 0, .slice none 0 0, .int .i64 0] 35)) w') := Lib.hid (by
                  by_cases hq0 : q = 0
                  · subst hq0
                    exact ⟨true, Same_eq (lbaSlot 0) none none 0 0 0 _ (bytes_none _ _) (bytes_none _ _)⟩
                  · exact ⟨false, Same_lba 0 0 q 0 0 0 0 none none 0 0 0 0 _ (by omega)⟩)
                replace H := Lib.hid (H.out.on hb9)
                clear hb9
                obtain ⟨sb, hS⟩ := HS.out
                go_wp2_with fail
                refine hS.mono ?_
                rintro e w10 ⟨rfl, hb⟩
                replace H := Lib.hid (H.out.on hb)
                clear hb HS hS
                go_wp2
                go_roundw
                case rel => exact ⟨q + 1, by omega, by go_num, H.out⟩
                case measure => simp [intOf]; omega
            · go_wp2
              go_ret
              exact ⟨rfl, H.out.below⟩

theorem own : ownKnob Try.prog.godebug = none := by kernel_rfl
theorem laid : laidOutB Try.prog = true := by kernel_rfl

set_option maxRecDepth 100000 in
theorem lifted (os : Os) (started : os.Started) (H : Type) (enc : TypeId × Value → H) :
    ReturnsInHanded {} Try.checked os 9 .any (Rows.ringFullSpec.pre6 enc Try.prog Try.f9 Rows.ringFullRow.domain false) (Rows.ringFullSpec.post enc Try.prog Try.f9 false true false false) := by
  refine returnsInHanded_of_change (C := Try.checked) own started (by kernel_rfl) Try.func9
    (ChangeSpec.witness6 (enc := enc) (C := Try.checked) false ⟨#[], #[.int .i64 0, .int .i64 0], []⟩ 8 (by kernel_rfl) (by kernel_rfl) (by kernel_rfl) (by kernel_rfl)) ?_
  intro W base args ds gs before hval0 hW _ _
  have hval : ∀ (j : Nat) t v, Try.f9.params[j]? = some t → args[j]? = some v → Value.okWide Try.prog W .any base t v := hval0
  have hW' := hW
  obtain ⟨p, q, hA0, hV, rfl, hfz, hnd⟩ := hW
  have hA : DataW.TrodAll enc Try.prog W 0 (fun _ => true) true Try.f9.params.toList args.toList ds p := hA0
  rw [Try.params9] at hA hval
  obtain ⟨v0, v1, d0, d1, p0, p1, rfl, rfl, rfl, h0, h1⟩ := trodAll_two hA
  obtain ⟨a0, rfl, rfl, rfl, wf0⟩ := open_int Try.underlying3 (hval 0 3 v0 rfl rfl) h0
  have hb0 : -9223372036854775808 ≤ a0 ∧ a0 ≤ 9223372036854775807 := by simpa [Lit.wf, IntKind.min, IntKind.max, IntKind.signed, IntKind.bits] using wf0
  obtain ⟨a1, rfl, rfl, rfl, wf1⟩ := open_int Try.underlying3 (hval 1 3 v1 rfl rfl) h1
  have hb1 : -9223372036854775808 ≤ a1 ∧ a1 ≤ 9223372036854775807 := by simpa [Lit.wf, IntKind.min, IntKind.max, IntKind.signed, IntKind.bits] using wf1
  refine (walk a0 a1 W hb0.1 hb0.2 hb1.1 hb1.2).mono fun e W' ⟨he, hb⟩ => ?_
  subst he
  exact ⟨_, rfl, Law.post laid (by kernel_rfl) (by kernel_rfl) Try.underlying4 rfl hW' rfl hb⟩

theorem proved : Rows.RingFullSaid :=
  OpenClaim.holds_of_wide 9 Try.f9 rfl rfl rfl rfl rfl rfl rfl ⟨rfl, rfl, rfl, rfl, rfl⟩ rfl rfl rfl rfl rfl (by kernel_rfl) Try.func9 (by kernel_rfl)
    (of_decide_eq_true (by kernel_rfl)) (by unfold Func.isWrapper; first | (rw [if_pos (by decide +kernel)]; kernel_rfl) | (rw [if_neg (by decide +kernel)]; exact ⟨rfl, rfl⟩))
    (fun os started H enc _ => lifted os started H enc)

end Go.Proofs.Ytmefmhjebodjgaa.ringFull
