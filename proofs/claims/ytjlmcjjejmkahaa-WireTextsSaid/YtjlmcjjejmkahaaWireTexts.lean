/-
  WireTexts: for any two slices of bytes the law answers true, and they read afterwards as they read before. No condition.
-/
import Derived.Test.YtjlmcjjejmkahaaWireKit
import Derived.Deep.RegionHeld
namespace Go.Proofs.Ytjlmcjjejmkahaa.wireTexts
open Go.ChangeShapes Go.WideShapes Go.ChangeAt Go.RowKit
set_option maxRecDepth 4000

set_option maxHeartbeats 2000000 in
theorem walk (A : Option Addr) (n c : Nat) (xs : List UInt8) (A' : Option Addr) (n' c' : Nat) (ys : List UInt8) (w : World) (hnc : n ≤ c) (hcm : c ≤ maxLen) (hr : Bytes w w.heap.size A n xs) (hnc' : n' ≤ c') (hcm' : c' ≤ maxLen) (hr' : Bytes w w.heap.size A' n' ys) :
    Calls Try.prog 6 #[.slice A n c, .slice A' n' c'] w fun e w' => e = .returned (.bool true) ∧ Below w.heap.size w w' := by
  have HR := Lib.hid hr
  have HR' := Lib.hid hr'
  clear hr hr'
  have hn := Nat.le_trans hnc hcm
  have hn' := Nat.le_trans hnc' hcm'
  have HC := Lib.hid hcm
  have HC' := Lib.hid hcm'
  unfold maxLen at hn hn' hcm hcm'
  go_enter Try.func6, Try.ntmps6
  go_wp2_with fail
  refine (awake_any _).mono ?_
  rintro e w1 ⟨rfl, hb⟩
  have HR1 := Lib.hid (bytes_keep HR.out hb)
  have HR1' := Lib.hid (bytes_keep HR'.out hb)
  have HB := Lib.hid hb
  have hsz := hb.size
  clear hb
  by_cases hl : 20000 < n
  · go_wp2
    go_ret
    exact ⟨rfl, HB.out⟩
  · by_cases hl' : 20000 < n'
    · go_wp2
      go_ret
      exact ⟨rfl, HB.out⟩
    · go_wp2_with fail
      refine (takeText_any A' n' c' _ ys _ (by omega) hnc' HC'.out HR1'.out).mono ?_
      rintro e w2 ⟨v2, rfl, ho2, hb2⟩
      have HB2 := Lib.hid (HB.out.trans (hb2.mono hsz))
      have HR2' := Lib.hid (bytes_keep (bytes_more HR1'.out hsz) hb2)
      have hsz2 := hb2.size
      obtain ⟨A2, c2, rfl, hr2⟩ := ho2.reads
      have HT2 := Lib.hid hr2
      clear hb2 ho2 hr2
      generalize (tt ys).1.length = l2 at HT2 ⊢
      go_wp2_with fail
      refine (rtakeText_any A' n' c' _ ys _ (by omega) hnc' HC'.out HR2'.out (by omega)).mono ?_
      rintro e w3 ⟨v3, rfl, ho3, hb3⟩
      have HB3 := Lib.hid (HB2.out.trans (hb3.mono (by omega)))
      have HT2' := Lib.hid (bytes_keep HT2.out hb3)
      have hsz3 := hb3.size
      obtain ⟨A3, c3, rfl, hr3⟩ := ho3.reads
      have HT3 := Lib.hid hr3
      clear hb3 ho3 hr3
      generalize (tt ys).1.length = l3 at HT3 ⊢
      generalize (tt ys).1 = ts at HT2 HT2' HT3
      generalize (tt ys).2.1 = r1
      generalize (tt ys).2.2 = r2
      have hn2 : n ≤ 100000000000 := by omega
      have HRd : Hid (Bytes w3.drew w.heap.size A n xs) := Lib.hid (show Bytes w3 _ _ _ _ from bytes_keep HR.out HB3.out)
      have hle : w.heap.size ≤ w3.drew.heap.size := HB3.out.size
      have HBd : Hid (Below w.heap.size w w3.drew) := Lib.hid HB3.out.drew
      have HT2d : Hid (Bytes w3.drew w3.drew.heap.size A2 l2 ts) := Lib.hid (bytes_more HT2'.out hsz3)
      have HT3d : Hid (Bytes w3.drew w3.drew.heap.size A3 l3 ts) := HT3
      have HX := Lib.hid (text_any A n c w.heap.size xs w3.drew hn2 HRd.out hle)
      have HY := Lib.hid (fun w4 (hb4 : Below w3.drew.heap.size w3.drew w4) => rtext_any A n c w.heap.size xs w4 hn2 (bytes_keep HRd.out (hb4.mono hle)) (Nat.le_trans hle hb4.size))
      generalize Wire.code n ++ xs = L at HX HY
      go_wp2
      go_region_held (fun _ => True) (trivial) (first
        | (go_at_call 22; refine HX.out.mono ?_; rintro e w4 ⟨v4, rfl, ho4, hb4⟩; obtain ⟨A4, c4, rfl, hr4⟩ := ho4.reads; have hs1 := run_str (P := Try.prog) w4 24 9 5 Try.underlying24 Try.underlying5 Try.underlying9 (c := c4) hr4; have HR4 := Lib.hid hr4; have HB4 := Lib.hid hb4; clear ho4 hr4 hb4)
        | (go_at_call 23; refine (HY.out w4 HB4.out).mono ?_; rintro e w5 ⟨v5, rfl, ho5, hb5⟩; obtain ⟨A5, c5, rfl, hr5⟩ := ho5.reads; have hs2 := run_str (P := Try.prog) w5 24 9 5 Try.underlying24 Try.underlying5 Try.underlying9 (c := c5) hr5; have hs3 := run_str (P := Try.prog) w5 24 9 5 Try.underlying24 Try.underlying5 Try.underlying9 (c := c4) (bytes_keep HR4.out hb5); have hs4 := run_str (P := Try.prog) w5 24 9 5 Try.underlying24 Try.underlying5 Try.underlying9 (c := c2) (bytes_keep (bytes_more (bytes_keep HT2d.out HB4.out) HB4.out.size) hb5); have hs5 := run_str (P := Try.prog) w5 24 9 5 Try.underlying24 Try.underlying5 Try.underlying9 (c := c3) (bytes_keep (bytes_more (bytes_keep HT3d.out HB4.out) HB4.out.size) hb5); have HB5 := Lib.hid hb5; clear ho5 hr5 hb5))
      all_goals
        clear hs1 hs2 hs3 hs4 hs5
        go_wp2
        go_ret
        exact ⟨by simp, HBd.out.trans ((HB4.out.mono hle).trans (HB5.out.mono (Nat.le_trans hle HB4.out.size)))⟩

theorem own : ownKnob Try.prog.godebug = none := by kernel_rfl
theorem laid : laidOutB Try.prog = true := by kernel_rfl
theorem one8 : Try.prog.cellsOf 5 = 1 := by kernel_rfl

set_option maxRecDepth 100000 in
theorem lifted (os : Os) (started : os.Started) (H : Type) (enc : TypeId × Value → H) :
    ReturnsInHanded {} Try.checked os 6 .any (Rows.wireTextsSpec.pre6 enc Try.prog Try.f6 Rows.wireTextsRow.domain false) (Rows.wireTextsSpec.post enc Try.prog Try.f6 false true false false) := by
  refine returnsInHanded_of_change (C := Try.checked) own started (by kernel_rfl) Try.func6
    (ChangeSpec.witness6 (enc := enc) (C := Try.checked) false ⟨#[], #[.slice none 0 0, .slice none 0 0], []⟩ 8 (by kernel_rfl) (by kernel_rfl) (by kernel_rfl) (by kernel_rfl)) ?_
  intro W base args ds gs before hval0 hW _ _
  have hval : ∀ (j : Nat) t v, Try.f6.params[j]? = some t → args[j]? = some v → Value.okWide Try.prog W .any base t v := hval0
  have hW' := hW
  obtain ⟨p, q, hA0, hV, rfl, hfz, hnd⟩ := hW
  have hA : DataW.TrodAll enc Try.prog W 0 (fun _ => true) true Try.f6.params.toList args.toList ds p := hA0
  rw [Try.params6] at hA hval
  obtain ⟨v0, v1, d0, d1, p0, p1, rfl, rfl, rfl, h0, h1⟩ := trodAll_two hA
  obtain ⟨A0, n0, c0, xs0, rfl, hnc0, hcm0, hr0⟩ := open_bytes Try.underlying24 Try.underlying5 one8 (hval 0 24 v0 rfl rfl) h0
  obtain ⟨A1, n1, c1, xs1, rfl, hnc1, hcm1, hr1⟩ := open_bytes Try.underlying24 Try.underlying5 one8 (hval 1 24 v1 rfl rfl) h1
  refine (walk A0 n0 c0 xs0 A1 n1 c1 xs1 W hnc0 hcm0 hr0 hnc1 hcm1 hr1).mono fun e W' ⟨he, hb⟩ => ?_
  subst he
  exact ⟨_, rfl, Law.post laid (by kernel_rfl) (by kernel_rfl) Try.underlying4 rfl hW' rfl hb⟩

theorem proved : Rows.WireTextsSaid :=
  OpenClaim.holds_of_wide 6 Try.f6 rfl rfl rfl rfl rfl rfl rfl ⟨rfl, rfl, rfl, rfl, rfl⟩ rfl rfl rfl rfl rfl (by kernel_rfl) Try.func6 (by kernel_rfl)
    (of_decide_eq_true (by kernel_rfl)) (by unfold Func.isWrapper; first | (rw [if_pos (by decide +kernel)]; kernel_rfl) | (rw [if_neg (by decide +kernel)]; exact ⟨rfl, rfl⟩))
    (fun os started H enc _ => lifted os started H enc)

end Go.Proofs.Ytjlmcjjejmkahaa.wireTexts
