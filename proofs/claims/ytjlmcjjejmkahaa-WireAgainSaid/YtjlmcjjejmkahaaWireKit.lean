/-
  What every law of layer 2 needs: the small call that each of them makes first.
-/
import Derived.Test.YtjlmcjjejmkahaaWireRef
import Derived.Test.YtjlmcjjejmkahaaLawKit
namespace Go.Proofs.Ytjlmcjjejmkahaa
open Go.RowKit Go.ChangeShapes Go.WideShapes
set_option maxRecDepth 4000

theorem codes_two : Wire.codes [0, 300] = [0, 172, 2] := by
  simp only [Wire.codes]
  rw [if_neg (by omega), if_neg (by omega), Wire.code_small (by decide), Wire.code_big (by decide), Wire.code_small (by decide)]
  rfl

set_option maxHeartbeats 400000 in
theorem awake_any (w : World) :
    Calls Try.prog 11 #[] w fun e w' => e = .returned (.bool true) ∧ Below w.heap.size w w' := by
  go_enter Try.func11, Try.ntmps11
  go_wp2_with fail
  refine (number_any _ 2 2 (w.heap.size + 1) [0, 300] _ (by omega) (nums_new w [0, 300] _ _ _ rfl (by intro y hy; simp at hy; omega)) (by simp)).mono ?_
  rintro e w2 ⟨v2, rfl, ho2, hb2⟩
  rw [codes_two] at ho2
  obtain ⟨A2, c2, rfl, hr2⟩ := ho2.reads
  have hs1 := run_str (P := Try.prog) w2 24 9 5 Try.underlying24 Try.underlying5 Try.underlying9 (c := c2) hr2
  have HB := Lib.hid (((Below.refl w.heap.size w).alloc (Nat.le_refl _) (.cells #[.int .i64 0, .int .i64 300] 3)).trans (hb2.mono (by simp)))
  clear ho2 hr2 hb2
  have hs1' : (convert 24 9 (.slice A2 3 c2)).run Try.prog w2 = .ok (.string ⟨#[0, 172, 2]⟩) w2 := hs1
  clear hs1
  go_wp2
  go_ret
  exact ⟨rfl, HB.out⟩

end Go.Proofs.Ytjlmcjjejmkahaa
