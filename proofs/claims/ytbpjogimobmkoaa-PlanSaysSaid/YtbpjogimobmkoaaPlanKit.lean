/-
  What the laws of layer 7 share: their first call.
-/
import Derived.Test.YtbpjogimobmkoaaPlanNew
import Derived.Test.YtbpjogimobmkoaaLawKit
import Derived.Test.YtbpjogimobmkoaaNums
import Derived.OpenShut
namespace Go.Proofs.Ytbpjogimobmkoaa.PlanPkg
open Go.RowKit
set_option maxRecDepth 4000

theorem awake_any (w : World) : Calls Try.prog 7 #[] w fun e w' => e = .returned (.bool true) ∧ Below w.heap.size w w' := by
  have hr := bytes_new w [1] #[.int .u8 1] 5 (0, 0) rfl
  have HR := Lib.hid hr
  clear hr
  go_enter Try.func7, Try.ntmps7
  go_wp2_with fail
  refine (New_any _ 1 1 _ [1] _ (by omega) HR.out (by simp)).mono ?_
  rintro e w2 ⟨g, rfl, hg, hp, hb⟩
  have hsz : w.heap.size ≤ g := Nat.le_trans (by simp) hg
  have HP := Lib.hid hp
  have HB := Lib.hid (((Below.refl w.heap.size w).alloc (Nat.le_refl _) _).trans (hb.mono (by simp)))
  clear hp hb HR
  go_wp2_with fail
  refine (Next_any _ g [1] 0 1 w2 HP.out (by omega) (by omega)).mono ?_
  rintro e w3 ⟨rfl, hp, hgr⟩
  replace HB := Lib.hid (below_of_grown HB.out hgr HB.out.size hsz)
  replace HP := Lib.hid hp
  clear hp hgr
  have e1 : Plan.says [1] = 1 := by decide
  rw [e1]
  go_wp2_with fail
  refine (Many_any _ g _ _ w3 HP.out).mono ?_
  rintro e w4 ⟨rfl, hw⟩; subst w4
  go_wp2
  go_ret
  exact ⟨rfl, HB.out⟩

end Go.Proofs.Ytbpjogimobmkoaa.PlanPkg
