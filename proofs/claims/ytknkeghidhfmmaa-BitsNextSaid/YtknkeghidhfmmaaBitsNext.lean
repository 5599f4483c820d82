/-
  BitsNext: for every slice of bytes, every two ints and every bool the law answers true, and the slice reads afterwards as it read before. No condition.
-/
import Derived.Test.YtknkeghidhfmmaaBitsRef2
import Derived.Test.YtknkeghidhfmmaaArrays
import Derived.Deep.RegionHeld
namespace Go.Proofs.Ytknkeghidhfmmaa.bitsNext
open Go.ChangeShapes Go.WideShapes Go.ChangeAt Go.RowKit Go.Proofs.Ytknkeghidhfmmaa.BitsPkg
set_option maxRecDepth 4000

theorem two_keep {w w' : World} {b : Nat} {v v' : Value} (h : w.cell? ⟨b, 0, none⟩ = some v ∧ w.cell? ⟨b, 1, none⟩ = some v') (hb : Below w.heap.size w w') : w'.cell? ⟨b, 0, none⟩ = some v ∧ w'.cell? ⟨b, 1, none⟩ = some v' :=
  ⟨(hb.cell (World.block_lt_of_cell? _ _ h.1)).trans h.1, (hb.cell (World.block_lt_of_cell? _ _ h.2)).trans h.2⟩

set_option maxHeartbeats 4000000 in
theorem walk (A : Option Addr) (n c : Nat) (xs : List UInt8) (N a : Int) (on : Bool) (w : World) (hnc : n ≤ c) (hcm : c ≤ maxLen) (hr : Bytes w w.heap.size A n xs) (_h0 : -9223372036854775808 ≤ N) (hN : N ≤ 9223372036854775807) (_h1 : -9223372036854775808 ≤ a) (_h2 : a ≤ 9223372036854775807) :
    Calls Try.prog 6 #[.slice A n c, .agg #[.int .i64 N, .int .i64 a], .bool on] w fun e w' => e = .returned (.bool true) ∧ Below w.heap.size w w' := by
  have HR := Lib.hid hr
  clear hr
  have hn := Nat.le_trans hnc hcm
  unfold maxLen at hn hcm
  have HB := Lib.hid ((Below.refl w.heap.size w).alloc (Nat.le_refl _) (.cells #[.int .i64 N, .int .i64 a] 34))
  have HS := Lib.hid (show (w.alloc (.cells #[.int .i64 N, .int .i64 a] 34)).cell? ⟨w.heap.size, 0, none⟩ = some (.int .i64 N) ∧ (w.alloc (.cells #[.int .i64 N, .int .i64 a] 34)).cell? ⟨w.heap.size, 1, none⟩ = some (.int .i64 a) by simp [World.cell?_alloc_at])
  go_enter Try.func6, Try.ntmps6
  go_wp2_with fail
  refine (awake_any _).mono ?_
  rintro e w1 ⟨rfl, hb⟩
  replace HB := Lib.hid (below_on HB.out hb)
  replace HS := Lib.hid (two_keep HS.out hb)
  clear hb
  by_cases hl : 3000 < n
  · go_wp2
    go_ret
    exact ⟨rfl, HB.out⟩
  · have hn2 : n ≤ 1000000000 := by omega
    have hn3 : n ≤ 1000000000000 := by omega
    replace HB : Hid (Below w.heap.size w w1.drew) := Lib.hid HB.out.drew
    replace HS : Hid (w1.drew.cell? ⟨w.heap.size, 0, none⟩ = some (.int .i64 N) ∧ w1.drew.cell? ⟨w.heap.size, 1, none⟩ = some (.int .i64 a)) := HS
    go_wp2
    go_region_held (fun w' => w'.cell? ⟨w.heap.size, 0, none⟩ = some (.int .i64 N) ∧ w'.cell? ⟨w.heap.size, 1, none⟩ = some (.int .i64 a)) (first | exact HS.out | exact two_keep (by assumption) hb)
      (first
        | (go_at_call 24; refine (next_any A n c w.heap.size xs N a on _ hn3 (bytes_keep HR.out HB.out) HB.out.size hN).mono ?_; rintro e w4 ⟨r1, rfl, hF1, hb⟩; have HF1 := Lib.hid hF1; have HB4 := Lib.hid (below_on HB.out hb); clear hF1)
        | (go_at_call 25; refine (ref_next A n c w.heap.size xs N a on _ hn2 (bytes_keep HR.out HB4.out) HB4.out.size hN).mono ?_; rintro e w5 ⟨r2, rfl, hF2, hb⟩; obtain rfl : r1 = r2 := HF1.out.one hF2; have HB5 := Lib.hid (below_on HB4.out hb); clear hF2))
    all_goals
      go_wp2
      go_ret
      exact ⟨by simp, HB5.out⟩

theorem own : ownKnob Try.prog.godebug = none := by kernel_rfl
theorem laid : laidOutB Try.prog = true := by kernel_rfl
theorem one8 : Try.prog.cellsOf 5 = 1 := by kernel_rfl
theorem one64 : Try.prog.cellsOf 3 = 1 := by kernel_rfl

set_option maxRecDepth 100000 in
theorem lifted (os : Os) (started : os.Started) (H : Type) (enc : TypeId × Value → H) :
    ReturnsInHanded {} Try.checked os 6 .any (Rows.bitsNextSpec.pre6 enc Try.prog Try.f6 Rows.bitsNextRow.domain false) (Rows.bitsNextSpec.post enc Try.prog Try.f6 false true false false) := by
  refine returnsInHanded_of_change (C := Try.checked) own started (by kernel_rfl) Try.func6
    (ChangeSpec.witness6 (enc := enc) (C := Try.checked) false ⟨#[], #[.slice none 0 0, .agg #[.int .i64 0, .int .i64 0], .bool false], []⟩ 8 (by kernel_rfl) (by kernel_rfl) (by kernel_rfl) (by kernel_rfl)) ?_
  intro W base args ds gs before hval0 hW _ _
  have hval : ∀ (j : Nat) t v, Try.f6.params[j]? = some t → args[j]? = some v → Value.okWide Try.prog W .any base t v := hval0
  have hW' := hW
  obtain ⟨p, q, hA0, hV, rfl, hfz, hnd⟩ := hW
  have hA : DataW.TrodAll enc Try.prog W 0 (fun _ => true) true Try.f6.params.toList args.toList ds p := hA0
  rw [Try.params6] at hA hval
  obtain ⟨v0, v1, v2, d0, d1, d2, p0, p1, p2, rfl, rfl, rfl, h0, h1, h2⟩ := trodAll_three hA
  obtain ⟨A0, n0, c0, xs0, rfl, hnc0, hcm0, hr0⟩ := open_bytes Try.underlying22 Try.underlying5 one8 (hval 0 22 v0 rfl rfl) h0
  obtain ⟨y1, z1, rfl, hby1, hbz1⟩ := open_ints2 Try.underlying34 (by kernel_rfl) Try.underlying3 one64 (hval 1 34 v1 rfl rfl) h1
  obtain ⟨b2, rfl, rfl, rfl⟩ := open_bool Try.underlying4 (hval 2 4 v2 rfl rfl) h2
  refine (walk A0 n0 c0 xs0 y1 z1 b2 W hnc0 hcm0 hr0 hby1.1 hby1.2 hbz1.1 hbz1.2).mono fun e W' ⟨he, hb⟩ => ?_
  subst he
  exact ⟨_, rfl, Law.post laid (by kernel_rfl) (by kernel_rfl) Try.underlying4 rfl hW' rfl hb⟩

theorem proved : Rows.BitsNextSaid :=
  OpenClaim.holds_of_wide 6 Try.f6 rfl rfl rfl rfl rfl rfl rfl ⟨rfl, rfl, rfl, rfl, rfl⟩ rfl rfl rfl rfl rfl (by kernel_rfl) Try.func6 (by kernel_rfl)
    (of_decide_eq_true (by kernel_rfl)) (by unfold Func.isWrapper; first | (rw [if_pos (by decide +kernel)]; kernel_rfl) | (rw [if_neg (by decide +kernel)]; exact ⟨rfl, rfl⟩))
    (fun os started H enc _ => lifted os started H enc)

end Go.Proofs.Ytknkeghidhfmmaa.bitsNext
