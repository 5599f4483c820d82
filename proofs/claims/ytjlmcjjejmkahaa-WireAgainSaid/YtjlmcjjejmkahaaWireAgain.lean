/-
  WireAgain: for every slice of bytes the law answers true, and it reads afterwards as it read before. No condition.
-/
import Derived.Test.YtjlmcjjejmkahaaWireKit
import Derived.Deep.RegionHeld
import Derived.Deep.DeepCutAuto
import Derived.BigQuiet
namespace Go.Proofs.Ytjlmcjjejmkahaa.wireAgain
open Go.ChangeShapes Go.WideShapes Go.ChangeAt Go.RowKit
set_option maxRecDepth 4000

theorem tn_cases (xs : List UInt8) : (tn xs).2.2 = 3 ∨ ((tn xs).2.2 = 0 ∧ 0 ≤ (tn xs).1 ∧ (tn xs).1 ≤ 9223372036854775807 ∧ 1 ≤ (tn xs).2.1 ∧ (tn xs).2.1 ≤ (xs.length : Int) ∧ Wire.code (tn xs).1.toNat = xs.take (tn xs).2.1.toNat) := by
  rcases ht : Wire.takes xs with _ | ⟨m, k⟩
  · rw [tn_none ht]
    exact .inl rfl
  · obtain ⟨h1, h2, h3, h4, h5⟩ := Wire.takes_some ht
    rw [tn_some ht]
    exact .inr ⟨rfl, by simp, by simp only; omega, by simp only; omega, by simp only; omega, by simpa using h5⟩

theorem tt_cases (xs : List UInt8) : (tt xs).2.2 = 3 ∨ ((tt xs).2.2 = 0 ∧ 1 ≤ (tt xs).2.1 ∧ (tt xs).2.1 ≤ (xs.length : Int) ∧ Wire.code (tt xs).1.length ++ (tt xs).1 = xs.take (tt xs).2.1.toNat) := by
  rcases ht : Wire.takes xs with _ | ⟨m, k⟩
  · have e : tt xs = ([], 0, 3) := by unfold tt; rw [ht]
    rw [e]
    exact .inl rfl
  · obtain ⟨h1, h2, h3, h4, h5⟩ := Wire.takes_some ht
    by_cases hl : xs.length - k < m
    · have e : tt xs = ([], 0, 3) := by unfold tt; rw [ht]; simp only; rw [if_pos hl]
      rw [e]
      exact .inl rfl
    · have e : tt xs = ((xs.drop k).take m, ((k + m : Nat) : Int), 0) := by unfold tt; rw [ht]; simp only; rw [if_neg hl]
      rw [e]
      refine .inr ⟨rfl, by simp only; omega, by simp only; omega, ?_⟩
      simp only [Int.toNat_natCast]
      rw [show ((xs.drop k).take m).length = m by simp; omega, h5, ← List.take_add]

theorem tt_len (xs : List UInt8) : (tt xs).1.length ≤ xs.length := by
  unfold tt
  rcases Wire.takes xs with _ | ⟨m, k⟩
  · simp
  · simp only
    split
    · simp
    · simp; omega

set_option maxHeartbeats 2000000 in
theorem walk (A : Option Addr) (n c : Nat) (xs : List UInt8) (w : World) (hnc : n ≤ c) (hcm : c ≤ maxLen) (hr : Bytes w w.heap.size A n xs) :
    Calls Try.prog 8 #[.slice A n c] w fun e w' => e = .returned (.bool true) ∧ Below w.heap.size w w' := by
  have HR := Lib.hid hr
  have HL := Lib.hid hr.1
  clear hr
  have HN := Lib.hid (Nat.le_trans hnc hcm)
  have HC := Lib.hid hcm
  unfold maxLen at hcm
  go_enter Try.func8, Try.ntmps8
  go_wp2_with fail
  refine (awake_any _).mono ?_
  rintro e w1 ⟨rfl, hb⟩
  have HR1 := Lib.hid (bytes_more (bytes_keep HR.out hb) hb.size)
  have HB := Lib.hid hb
  have hsz := hb.size
  clear hb
  by_cases hl : 20000 < n
  · go_wp2
    go_ret
    exact ⟨rfl, HB.out⟩
  · go_wp2_with fail
    refine (takeNumber_any _ _ _ _ xs _ HN.out HR1.out).mono ?_
    rintro e w2 ⟨rfl, rfl⟩
    have HQ := Lib.hid (tn_cases xs)
    rw [HL.out] at HQ
    generalize (tn xs).1 = r0 at HQ ⊢
    generalize (tn xs).2.1 = r1 at HQ ⊢
    generalize (tn xs).2.2 = r2 at HQ ⊢
    go_upto_region 5 with fail
    go_cut [47] (fun s wx => s = .bool false ∧ Below w1.heap.size w1 wx)
    case first =>
      rcases HQ.out with h | ⟨h, h1, h2, h3, h4, h5⟩
      · have hd : (r2 == 0) = false := by rw [h]; rfl
        clear h HQ
        go_quiet (fail)
        go_wp2_with fail
        go_meet
        exact ⟨rfl, below_draws (Below.refl _ _) nq⟩
      · have hd : (r2 == 0) = true := by rw [h]; rfl
        have HS := Lib.hid h5
        clear h HQ h5
        have hk0 : 0 ≤ r1 := by omega
        have hk1 : r1 ≤ (c : Int) := by omega
        have hd1 : decide (r0 < 0) = false := by simp; omega
        have hd2 : decide (r1 < 1) = false := by simp; omega
        have hd3 : decide ((n : Int) < r1) = false := by simp; omega
        have HX : Hid (Calls Try.prog 12 #[.slice (some ⟨w1.heap.size, 0, none⟩) 1 1] ((w1.alloc (.cells #[.int .i64 r0] 3)).drew) fun e w' => ∃ v', e = .returned v' ∧ Own w' w1.heap.size 5 v' (Wire.code r0.toNat) ∧ Below w1.heap.size w1.drew w') := Lib.hid (number_one w1.drew r0 _ rfl _ _ h1 h2)
        have HT0 := Lib.hid (bytes_take HR1.out (show r1.toNat ≤ n by omega))
        have hs0 := run_str (P := Try.prog) w1.drew 24 9 5 Try.underlying24 Try.underlying5 Try.underlying9 (c := c) (show Bytes w1.drew _ _ _ _ from HT0.out)
        have hs1 := run_str (P := Try.prog) (w1.alloc (.cells #[.int .i64 r0] 3)).drew 24 9 5 Try.underlying24 Try.underlying5 Try.underlying9 (c := c) (bytes_keep HT0.out (((Below.refl w1.heap.size w1).alloc (Nat.le_refl _) _).drew))
        rw [← HS.out] at hs0 hs1 HT0
        generalize Wire.code r0.toNat = cm at HX HT0 hs0 hs1
        go_region_held (fun w' => (convert 24 9 (.slice A r1.toNat c)).run Try.prog w' = .ok (.string (str cm)) w') (first | exact hs0 | exact hs1 | exact hs4) (first
          | (go_at_call 12; refine HX.out.mono ?_; rintro e w4 ⟨v4, rfl, ho4, hb4⟩; obtain ⟨A4, c4, rfl, hr4⟩ := ho4.reads; have hs3 := run_str (P := Try.prog) w4 24 9 5 Try.underlying24 Try.underlying5 Try.underlying9 (c := c4) hr4; have hs4 := run_str (P := Try.prog) w4 24 9 5 Try.underlying24 Try.underlying5 Try.underlying9 (c := c) (bytes_keep (show Bytes w1.drew _ _ _ _ from HT0.out) hb4); have HB4 := Lib.hid hb4; clear ho4 hr4 hb4))
        all_goals
          clear hs0 hs1 hs3 hs4
          go_wp2_with fail
          go_meet
          exact ⟨rfl, (Below.refl w1.heap.size w1).drew.trans HB4.out⟩
    case rest =>
      obtain ⟨rfl, hbc⟩ := hcut
      have HBc := Lib.hid hbc
      have hszc := hbc.size
      have HRc := Lib.hid (bytes_more (bytes_keep HR1.out hbc) hbc.size)
      clear hbc HQ
      go_wp2_with fail
      refine (takeText_any _ _ _ _ xs _ (by omega) hnc HC.out HRc.out).mono ?_
      rintro e w5 ⟨v5, rfl, ho5, hb5⟩
      have HB5 := Lib.hid hb5
      have hsz5 := hb5.size
      have HR5 := Lib.hid (bytes_more (bytes_keep HRc.out hb5) hb5.size)
      obtain ⟨A5, c5, rfl, hr5⟩ := ho5.reads
      have HT5 := Lib.hid hr5
      have HQ := Lib.hid (tt_cases xs)
      have hln := tt_len xs
      rw [HL.out] at HQ hln
      clear ho5 hb5 hr5
      generalize (tt xs).2.1 = r1 at HQ ⊢
      generalize (tt xs).2.2 = r2 at HQ ⊢
      generalize (tt xs).1 = ts at HQ HT5 hln ⊢
      generalize hlt : ts.length = lt at HQ HT5 hln ⊢
      clear hlt
      go_wp2_with fail
      rcases HQ.out with h | ⟨h, h3, h4, h5⟩
      · have hd : (r2 == 0) = false := by rw [h]; rfl
        clear h HQ
        go_quiet (fail)
        go_wp2
        go_ret
        exact ⟨rfl, below_draws (HB.out.trans ((HBc.out.trans (HB5.out.mono hszc)).mono hsz)) nq⟩
      · have hd : (r2 == 0) = true := by rw [h]; rfl
        have HS := Lib.hid h5
        clear h HQ h5
        have hk0 : 0 ≤ r1 := by omega
        have hk1 : r1 ≤ (c : Int) := by omega
        have hd2 : decide (r1 < 1) = false := by simp; omega
        have hd3 : decide ((n : Int) < r1) = false := by simp; omega
        have HX := Lib.hid (text_any A5 lt c5 w5.heap.size ts w5.drew (by omega) HT5.out (Nat.le_refl _))
        have HT0 := Lib.hid (bytes_take HR5.out (show r1.toNat ≤ n by omega))
        have hs0 := run_str (P := Try.prog) w5.drew 24 9 5 Try.underlying24 Try.underlying5 Try.underlying9 (c := c) (show Bytes w5.drew _ _ _ _ from HT0.out)
        rw [← HS.out] at hs0 HT0
        generalize Wire.code lt ++ ts = cm at HX HT0 hs0
        go_region_held (fun w' => (convert 24 9 (.slice A r1.toNat c)).run Try.prog w' = .ok (.string (str cm)) w') (first | exact hs0 | exact hs4) (first
          | (go_at_call 22; refine HX.out.mono ?_; rintro e w6 ⟨v6, rfl, ho6, hb6⟩; obtain ⟨A6, c6, rfl, hr6⟩ := ho6.reads; have hs3 := run_str (P := Try.prog) w6 24 9 5 Try.underlying24 Try.underlying5 Try.underlying9 (c := c6) hr6; have hs4 := run_str (P := Try.prog) w6 24 9 5 Try.underlying24 Try.underlying5 Try.underlying9 (c := c) (bytes_keep (show Bytes w5.drew _ _ _ _ from HT0.out) hb6); have HB6 := Lib.hid hb6; clear ho6 hr6 hb6))
        all_goals
          clear hs0 hs3 hs4
          go_wp2
          go_ret
          exact ⟨rfl, HB.out.trans ((HBc.out.trans ((HB5.out.mono hszc).trans ((Below.refl w1.heap.size w5).drew.trans (HB6.out.mono (Nat.le_trans hszc hsz5))))).mono hsz)⟩

theorem own : ownKnob Try.prog.godebug = none := by kernel_rfl
theorem laid : laidOutB Try.prog = true := by kernel_rfl
theorem one8 : Try.prog.cellsOf 5 = 1 := by kernel_rfl

set_option maxRecDepth 100000 in
theorem lifted (os : Os) (started : os.Started) (H : Type) (enc : TypeId × Value → H) :
    ReturnsInHanded {} Try.checked os 8 .any (Rows.wireAgainSpec.pre6 enc Try.prog Try.f8 Rows.wireAgainRow.domain false) (Rows.wireAgainSpec.post enc Try.prog Try.f8 false true false false) := by
  refine returnsInHanded_of_change (C := Try.checked) own started (by kernel_rfl) Try.func8
    (ChangeSpec.witness6 (enc := enc) (C := Try.checked) false ⟨#[], #[.slice none 0 0], []⟩ 8 (by kernel_rfl) (by kernel_rfl) (by kernel_rfl) (by kernel_rfl)) ?_
  intro W base args ds gs before hval0 hW _ _
  have hval : ∀ (j : Nat) t v, Try.f8.params[j]? = some t → args[j]? = some v → Value.okWide Try.prog W .any base t v := hval0
  have hW' := hW
  obtain ⟨p, q, hA0, hV, rfl, hfz, hnd⟩ := hW
  have hA : DataW.TrodAll enc Try.prog W 0 (fun _ => true) true Try.f8.params.toList args.toList ds p := hA0
  rw [Try.params8] at hA hval
  obtain ⟨v0, d0, rfl, rfl, h0⟩ := trodAll_one hA
  obtain ⟨A0, n0, c0, xs0, rfl, hnc0, hcm0, hr0⟩ := open_bytes Try.underlying24 Try.underlying5 one8 (hval 0 24 v0 rfl rfl) h0
  refine (walk A0 n0 c0 xs0 W hnc0 hcm0 hr0).mono fun e W' ⟨he, hb⟩ => ?_
  subst he
  exact ⟨_, rfl, Law.post laid (by kernel_rfl) (by kernel_rfl) Try.underlying4 rfl hW' rfl hb⟩

theorem proved : Rows.WireAgainSaid :=
  OpenClaim.holds_of_wide 8 Try.f8 rfl rfl rfl rfl rfl rfl rfl ⟨rfl, rfl, rfl, rfl, rfl⟩ rfl rfl rfl rfl rfl (by kernel_rfl) Try.func8 (by kernel_rfl)
    (of_decide_eq_true (by kernel_rfl)) (by unfold Func.isWrapper; first | (rw [if_pos (by decide +kernel)]; kernel_rfl) | (rw [if_neg (by decide +kernel)]; exact ⟨rfl, rfl⟩))
    (fun os started H enc _ => lifted os started H enc)

end Go.Proofs.Ytjlmcjjejmkahaa.wireAgain
