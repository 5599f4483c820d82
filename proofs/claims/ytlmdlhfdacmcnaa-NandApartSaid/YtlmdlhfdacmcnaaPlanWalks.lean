/-
  What the functions of package plan do, the first part: slices.Clone, behind, outcome, written.
-/
import Derived.Test.YtlmdlhfdacmcnaaPlanMath
import Derived.Test.YtlmdlhfdacmcnaaBag
import Derived.Test.YtlmdlhfdacmcnaaChecked
namespace Go.Proofs.Ytlmdlhfdacmcnaa.PlanPkg
open Go.RowKit
set_option maxRecDepth 4000

theorem info8 : byteInfo Try.prog 5 := ⟨_, rfl, by kernel_rfl, by kernel_rfl, by kernel_rfl⟩

theorem below_on {B : Nat} {a b c : World} (h : Below B a b) (k : Below b.heap.size b c) (hB : B ≤ b.heap.size) : Below B a c := h.trans (k.mono hB)

theorem clone_any (A : Option Addr) (n c B : Nat) (xs : List UInt8) (w : World) (hn : n ≤ 100000000000000) (hr : Bytes w B A n xs) (hB : B ≤ w.heap.size) :
    Calls Try.prog 59 #[.slice A n c] w fun e w' => ∃ v, e = .returned v ∧ Own w' w.heap.size 5 v xs ∧ Below w.heap.size w w' := by
  rcases A with _ | ad
  · have hy : xs = [] := by
      rcases xs with _ | ⟨y, ys⟩
      · rfl
      · obtain ⟨b, off, h, _⟩ := hr.2 0 (by simp)
        cases h
    subst hy
    have hnil : (binOp .eql 47 (.slice none n c) (.slice none 0 0)).run Try.prog w = .ok (.bool true) w := Lib.run_eql_slice_nil w 47 5 none n c 0 0 Try.underlying47
    go_enter Try.func59, Try.ntmps59
    go_wp2
    go_ret
    exact ⟨_, rfl, ⟨rfl, .inl ⟨rfl, rfl⟩⟩, Below.refl _ _⟩
  · have hlen : ([] : List UInt8).length + n ≤ 140737488355328 := by simp; omega
    have HR := Lib.hid (bytes_keep (bytes_more hr hB) ((Below.refl w.heap.size w).alloc (Nat.le_refl _) (.cells #[] 5)))
    clear hr
    have hnil : (binOp .eql 47 (.slice (some ad) n c) (.slice none 0 0)).run Try.prog w = .ok (.bool false) w := Lib.run_eql_slice_nil w 47 5 (some ad) n c 0 0 Try.underlying47
    go_enter Try.func59, Try.ntmps59
    go_wp2_with (at_builtin; refine wpList_append_bytes _ rfl _ _ _ rfl w.heap.size 5 Try.underlying47 info8 _ [] rfl (own_new w 5 [] _ rfl (Nat.zero_le _)) w.heap.size (some ad) n c xs rfl HR.out hlen (by simp) ?_)
    intro v2 w2 ho2 hg2 _
    have HO := Lib.hid ho2
    have HB := Lib.hid (((Below.refl w.heap.size w).alloc (Nat.le_refl _) _).grown hg2 (by simp) (fun k hk => by simp [Value.ownBlock] at hk; omega))
    clear ho2 hg2
    go_wp2
    go_ret
    exact ⟨_, rfl, HO.out, HB.out⟩

theorem behind_one (a : Addr) (c : Nat) (w : World) (hc : 1 ≤ c) :
    Calls Try.prog 68 #[.slice (some a) 1 c] w fun e w' => ∃ A, e = .returned (.slice A 0 0) ∧ w' = w := by
  go_enter Try.func68, Try.ntmps68
  go_wp2
  go_ret
  exact ⟨_, rfl, rfl⟩

theorem behind_more (b off m c : Nat) (w : World) (hc : m + 2 ≤ c) (hm : m + 2 ≤ 9223372036854775807) :
    Calls Try.prog 68 #[.slice (some ⟨b, off, none⟩) (m + 2) c] w fun e w' => e = .returned (.slice (some ⟨b, off + 1, none⟩) (m + 1) (m + 1)) ∧ w' = w := by
  go_enter Try.func68, Try.ntmps68
  go_wp2
  go_ret
  exact ⟨rfl, rfl⟩

theorem outcome_any (x : Int) (h0 : 0 ≤ x) (h1 : x < 256) (w : World) :
    Calls Try.prog 69 #[.int .u8 x] w fun e w' => e = .returned (.int .i64 (Plan.out x)) ∧ w' = w := by
  by_cases h : x % 4 = 3
  · have HO := Lib.hid (show Plan.out x = 0 from if_pos h)
    go_enter Try.func69, Try.ntmps69
    go_wp2
    go_ret
    exact ⟨ret_int HO.out.symm, rfl⟩
  · have HO := Lib.hid (show Plan.out x = x % 4 from if_neg h)
    go_enter Try.func69, Try.ntmps69
    go_wp2
    go_ret
    exact ⟨ret_int HO.out.symm, rfl⟩

theorem written_any (x s : Int) (h0 : 0 ≤ x) (h1 : x < 256) (w : World) :
    Calls Try.prog 70 #[.int .u8 x, .int .i64 s] w fun e w' => e = .returned (.int .i64 (Plan.wrt x s)) ∧ w' = w := by
  obtain ⟨o, ho⟩ : ∃ o, o = Plan.out x := ⟨_, rfl⟩
  have hO := outcome_any x h0 h1 w
  rw [← ho] at hO
  have HO := Lib.hid hO
  clear hO
  by_cases h : o = 2
  · have ho2 : Plan.out x = 2 := by rw [← ho, h]
    subst h
    by_cases h2 : s < 0
    · have HW := Lib.hid (show Plan.wrt x s = 0 from if_neg (by omega))
      clear ho ho2
      go_enter Try.func70, Try.ntmps70
      go_wp2_with fail
      refine HO.out.mono ?_
      rintro e w2 ⟨rfl, hw⟩; subst w2
      go_wp2
      go_ret
      exact ⟨ret_int HW.out.symm, rfl⟩
    · by_cases h4 : 4 < s
      · have HW := Lib.hid (show Plan.wrt x s = 0 from if_neg (by omega))
        clear ho ho2
        go_enter Try.func70, Try.ntmps70
        go_wp2_with fail
        refine HO.out.mono ?_
        rintro e w2 ⟨rfl, hw⟩; subst w2
        go_wp2
        go_ret
        exact ⟨ret_int HW.out.symm, rfl⟩
      · have HW := Lib.hid (show Plan.wrt x s = (x / 4) % (s + 1) from if_pos (by omega))
        have h5 : ¬ s + 1 = 0 := by omega
        clear ho ho2
        go_enter Try.func70, Try.ntmps70
        go_wp2_with fail
        refine HO.out.mono ?_
        rintro e w2 ⟨rfl, hw⟩; subst w2
        go_wp2
        go_ret
        exact ⟨ret_int HW.out.symm, rfl⟩
  · have HW := Lib.hid (show Plan.wrt x s = 0 from if_neg (by omega))
    clear ho
    go_enter Try.func70, Try.ntmps70
    go_wp2_with fail
    refine HO.out.mono ?_
    rintro e w2 ⟨rfl, hw⟩; subst w2
    go_wp2
    go_ret
    exact ⟨ret_int HW.out.symm, rfl⟩

end Go.Proofs.Ytlmdlhfdacmcnaa.PlanPkg
