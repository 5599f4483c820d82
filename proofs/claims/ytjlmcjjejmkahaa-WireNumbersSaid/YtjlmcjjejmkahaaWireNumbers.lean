/-
  WireNumbers: for every slice of ints the law answers true, and it reads afterwards as it read before. No condition.
-/
import Derived.Test.YtjlmcjjejmkahaaWireKit
import Derived.Deep.RegionWith
namespace Go.Proofs.Ytjlmcjjejmkahaa.wireNumbers
open Go.ChangeShapes Go.WideShapes Go.ChangeAt Go.RowKit
set_option maxRecDepth 4000

set_option maxHeartbeats 400000 in
theorem walk (A : Option Addr) (n c : Nat) (zs : List Int) (w : World) (hnc : n ≤ c) (hcm : c ≤ maxLen) (hr : Nums w w.heap.size A n zs) :
    Calls Try.prog 3 #[.slice A n c] w fun e w' => e = .returned (.bool true) ∧ Below w.heap.size w w' := by
  have HR := Lib.hid hr
  clear hr
  have hn := Nat.le_trans hnc hcm
  unfold maxLen at hn hcm
  go_enter Try.func3, Try.ntmps3
  go_wp2_with fail
  refine (awake_any _).mono ?_
  rintro e w1 ⟨rfl, hb⟩
  have HR1 := Lib.hid (nums_more (nums_keep HR.out hb) hb.size)
  have HB := Lib.hid hb
  have hsz := hb.size
  clear hb
  by_cases hl : 1000 < n
  · go_wp2
    go_ret
    exact ⟨rfl, HB.out⟩
  · go_wp2
    have hn' : n ≤ 1000000000 := by omega
    have HRd : Hid (Nums w1.drew w1.heap.size A n zs) := HR1
    have hle : w1.heap.size ≤ w1.drew.heap.size := Nat.le_refl _
    have HBd : Hid (Below w.heap.size w w1.drew) := Lib.hid HB.out.drew
    go_region_with (first
      | (go_at_call 12; refine (number_any A n c w1.heap.size zs w1.drew hn' HRd.out hle).mono ?_; rintro e w2 ⟨v2, rfl, ho2, hb2⟩; obtain ⟨A2, c2, rfl, hr2⟩ := ho2.reads; have hs1 := run_str (P := Try.prog) w2 24 9 5 Try.underlying24 Try.underlying5 Try.underlying9 (c := c2) hr2; have HR2 := Lib.hid hr2; have HB2 := Lib.hid hb2; clear ho2 hr2 hb2)
      | (go_at_call 13; refine (rnumber_any A n c w1.heap.size zs w2 hn' (nums_keep HRd.out HB2.out) (Nat.le_trans hle HB2.out.size)).mono ?_; rintro e w3 ⟨v3, rfl, ho3, hb3⟩; obtain ⟨A3, c3, rfl, hr3⟩ := ho3.reads; have hs2 := run_str (P := Try.prog) w3 24 9 5 Try.underlying24 Try.underlying5 Try.underlying9 (c := c3) hr3; have hs3 := run_str (P := Try.prog) w3 24 9 5 Try.underlying24 Try.underlying5 Try.underlying9 (c := c2) (bytes_keep HR2.out hb3); have HB3 := Lib.hid hb3; clear ho3 hr3 hb3))
    all_goals
      clear hs1 hs2 hs3
      go_wp2
      go_ret
      exact ⟨by simp; rfl, HBd.out.trans ((HB2.out.mono hsz).trans (HB3.out.mono (Nat.le_trans hsz HB2.out.size)))⟩

theorem own : ownKnob Try.prog.godebug = none := by kernel_rfl
theorem laid : laidOutB Try.prog = true := by kernel_rfl
theorem one64 : Try.prog.cellsOf 3 = 1 := by kernel_rfl

set_option maxRecDepth 100000 in
theorem lifted (os : Os) (started : os.Started) (H : Type) (enc : TypeId × Value → H) :
    ReturnsInHanded {} Try.checked os 3 .any (Rows.wireNumbersSpec.pre6 enc Try.prog Try.f3 Rows.wireNumbersRow.domain false) (Rows.wireNumbersSpec.post enc Try.prog Try.f3 false true false false) := by
  refine returnsInHanded_of_change (C := Try.checked) own started (by kernel_rfl) Try.func3
    (ChangeSpec.witness6 (enc := enc) (C := Try.checked) false ⟨#[], #[.slice none 0 0], []⟩ 8 (by kernel_rfl) (by kernel_rfl) (by kernel_rfl) (by kernel_rfl)) ?_
  intro W base args ds gs before hval0 hW _ _
  have hval : ∀ (j : Nat) t v, Try.f3.params[j]? = some t → args[j]? = some v → Value.okWide Try.prog W .any base t v := hval0
  have hW' := hW
  obtain ⟨p, q, hA0, hV, rfl, hfz, hnd⟩ := hW
  have hA : DataW.TrodAll enc Try.prog W 0 (fun _ => true) true Try.f3.params.toList args.toList ds p := hA0
  rw [Try.params3] at hA hval
  obtain ⟨v0, d0, rfl, rfl, h0⟩ := trodAll_one hA
  obtain ⟨A0, n0, c0, zs0, rfl, hnc0, hcm0, hr0⟩ := open_nums Try.underlying22 Try.underlying3 one64 (hval 0 22 v0 rfl rfl) h0
  refine (walk A0 n0 c0 zs0 W hnc0 hcm0 hr0).mono fun e W' ⟨he, hb⟩ => ?_
  subst he
  exact ⟨_, rfl, Law.post laid (by kernel_rfl) (by kernel_rfl) Try.underlying4 rfl hW' rfl hb⟩

theorem proved : Rows.WireNumbersSaid :=
  OpenClaim.holds_of_wide 3 Try.f3 rfl rfl rfl rfl rfl rfl rfl ⟨rfl, rfl, rfl, rfl, rfl⟩ rfl rfl rfl rfl rfl (by kernel_rfl) Try.func3 (by kernel_rfl)
    (of_decide_eq_true (by kernel_rfl)) (by unfold Func.isWrapper; first | (rw [if_pos (by decide +kernel)]; kernel_rfl) | (rw [if_neg (by decide +kernel)]; exact ⟨rfl, rfl⟩))
    (fun os started H enc _ => lifted os started H enc)

end Go.Proofs.Ytjlmcjjejmkahaa.wireNumbers
