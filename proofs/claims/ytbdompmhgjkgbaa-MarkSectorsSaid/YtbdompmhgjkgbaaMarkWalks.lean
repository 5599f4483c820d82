/-
  What each function of package mark does: one contract a function, over the mathematics of MarkMath. The first part: beside, Right, letter, fixed.
-/
import Derived.Test.YtbdompmhgjkgbaaMarkMath
import Derived.Test.YtbdompmhgjkgbaaOobRight
import Derived.Test.YtbdompmhgjkgbaaThree
import Derived.Deep.DeepCutAuto
namespace Go.Proofs.Ytbdompmhgjkgbaa.MarkPkg
open Go.RowKit Go.ChangeShapes Go.WideShapes Go.Proofs.Ytbdompmhgjkgbaa.OobPkg
set_option maxRecDepth 4000
attribute [-go_sem] loadCellsFrom storeCells

theorem beside_any (l r s : Int) (w : World) :
    Calls Try.prog 19 #[tri l r s] w fun e w' => e = .returned (tri 4 l s) ∧ Below w.heap.size w w' := by
  have HB := Lib.hid (show Below w.heap.size w ((w.alloc (.cells #[.int .i64 l, .int .i64 r, .int .i64 s] 23)).alloc (.cells #[.int .i64 0, .int .i64 0, .int .i64 0] 30)) from ((Below.refl w.heap.size w).alloc (Nat.le_refl _) _).alloc (by simp) _)
  have HT : Three 30 ((w.alloc (.cells #[.int .i64 l, .int .i64 r, .int .i64 s] 23)).alloc (.cells #[.int .i64 0, .int .i64 0, .int .i64 0] 30)) (w.heap.size + 1) 0 0 0 := Three.newAt (by simp) 0 0 0
  obtain ⟨w2, hst, ht, hb⟩ := HT.store Try.prog 4 l s
  have hld := ht.load (P := Try.prog)
  have HB2 := Lib.hid (HB.out.trans (hb.mono (by omega)))
  clear ht hb HT
  go_enter Try.func19, Try.ntmps19
  go_wp2
  refine bodyPost_ret (v := tri 4 l s) ?_ rfl ⟨rfl, HB2.out⟩
  simp [results, Try.results19, go_sem, hld]

/-- Right, whatever it is given. -/
theorem right_any (l r s : Int) (w : World) :
    Calls Try.prog 13 #[tri l r s] w fun e w' => e = .returned (.bool (decide (Mark.Ok l r s))) ∧ Below w.heap.size w w' := by
  have HB := Lib.hid ((Below.refl w.heap.size w).alloc (Nat.le_refl _) (.cells #[.int .i64 l, .int .i64 r, .int .i64 s] 23))
  have HT := Lib.hid (Three.new 23 w l r s)
  have done : ∀ {x y : Bool} {w'}, x = y → Below w.heap.size w w' → Ending.returned (.bool x) = .returned (.bool y) ∧ Below w.heap.size w w' := fun h hb => ⟨by rw [h], hb⟩
  by_cases h1 : l < 64
  · by_cases h2 : 0 ≤ r
    · by_cases h3 : r ≤ 2147483647
      · have hld := HT.out.load (P := Try.prog)
        have hc0 := HT.out.c0
        have hc1 := HT.out.c1
        go_enter Try.func13, Try.ntmps13
        go_wp2_with fail
        refine (beside_any l r s _).mono ?_
        rintro e w2 ⟨rfl, hb⟩
        have HB2 := Lib.hid (below_on HB.out hb)
        clear hb hld hc0 hc1
        go_wp2_with fail
        refine (OobPkg.right_any 4 l s _).mono ?_
        rintro e w3 ⟨rfl, hb⟩
        have HB3 := Lib.hid (below_on HB2.out hb)
        clear hb
        obtain ⟨z, hz⟩ : ∃ z, z = decide (Oob.Ok 4 l s) := ⟨_, rfl⟩
        rw [← hz]
        have HZ := Lib.hid hz
        clear hz
        go_wp2
        go_ret
        refine done ?_ HB3.out
        rw [HZ.out, Bool.eq_iff_iff]
        simp only [decide_eq_true_eq]
        unfold Oob.Ok Mark.Ok
        omega
      · have hc0 := HT.out.c0
        have hc1 := HT.out.c1
        go_enter Try.func13, Try.ntmps13
        go_wp2
        go_ret
        refine done ?_ HB.out
        rw [Bool.eq_iff_iff]
        simp only [decide_eq_true_eq, Bool.false_eq_true, false_iff]
        unfold Mark.Ok
        omega
    · have hc0 := HT.out.c0
      have hc1 := HT.out.c1
      go_enter Try.func13, Try.ntmps13
      go_wp2
      go_ret
      refine done ?_ HB.out
      rw [Bool.eq_iff_iff]
      simp only [decide_eq_true_eq, Bool.false_eq_true, false_iff]
      unfold Mark.Ok
      omega
  · have hc0 := HT.out.c0
    have hc1 := HT.out.c1
    go_enter Try.func13, Try.ntmps13
    go_wp2
    go_ret
    refine done ?_ HB.out
    rw [Bool.eq_iff_iff]
    simp only [decide_eq_true_eq, Bool.false_eq_true, false_iff]
    unfold Mark.Ok
    omega

/-- The letters. -/
def letters : List UInt8 := [65, 66, 67, 68, 69, 70, 71]

theorem letter_at (r : Int) : letters[(r % 7).toNat]? = some (Mark.letter r) := by
  have h7 : (r % 7).toNat < 7 := by omega
  unfold Mark.letter
  generalize (r % 7).toNat = k at h7
  match k, h7 with
  | 0, _ => rfl
  | 1, _ => rfl
  | 2, _ => rfl
  | 3, _ => rfl
  | 4, _ => rfl
  | 5, _ => rfl
  | 6, _ => rfl

theorem letter_any (r : Int) (w : World) (h0 : 0 ≤ r) :
    Calls Try.prog 23 #[.int .i64 r] w fun e w' => e = .returned (.int .u8 ((Mark.letter r).toNat : Int)) ∧ Below w.heap.size w w' := by
  have ha := Arr.new w 55 (List.replicate 7 0)
  obtain ⟨w2, hst0, ha2, hb2⟩ := run_store_arr (P := Try.prog) (ys := letters) ha rfl
  have hst : (storeCells ⟨w.heap.size, 0, none⟩ [.int .u8 65, .int .u8 66, .int .u8 67, .int .u8 68, .int .u8 69, .int .u8 70, .int .u8 71]).run Try.prog (w.alloc (.cells #[.int .u8 0, .int .u8 0, .int .u8 0, .int .u8 0, .int .u8 0, .int .u8 0, .int .u8 0] 55)) = .ok () w2 := hst0
  have HB := Lib.hid (((Below.refl w.heap.size w).alloc (Nat.le_refl _) (.cells ((List.replicate 7 (0 : UInt8)).map cellOf).toArray 55)).trans hb2)
  have hc := ha2.cell (letter_at r)
  have hm : r.tmod 7 = r % 7 := Int.tmod_eq_emod_of_nonneg h0
  have h70 : 0 ≤ r % 7 := by omega
  have h77 : r % 7 < 7 := by omega
  generalize ((Mark.letter r).toNat : Int) = y at hc ⊢
  clear hst0 ha ha2 hb2
  go_enter Try.func23, Try.ntmps23
  go_wp2
  go_ret
  exact ⟨rfl, HB.out⟩

theorem tf_is {xs : List UInt8} (h : 4 ≤ xs.length) : tf xs = ((Wire.fk xs 4 : Int), 0) := by
  unfold tf
  rw [if_neg (by omega)]

theorem fixed_arr (p : Nat) (hp : p = 4 ∨ p = 8 ∨ p = 12) (b : List UInt8) (hl : b.length = 16) (U : Array Value) (hU : U = (b.map cellOf).toArray) (w : World) :
    Calls Try.prog 26 #[.agg U, .int .i64 (p : Int)] w fun e w' => e = .returned (.int .i64 (Wire.fk (b.drop p) 4 : Int)) ∧ Below w.heap.size w w' := by
  have ha : Arr (w.alloc (.cells U 42)) w.heap.size 42 b := by rw [hU]; exact Arr.new w _ b
  have hr := ha.bytes p
  have HB := Lib.hid ((Below.refl w.heap.size w).alloc (Nat.le_refl _) (.cells U 42))
  have hf := takeFixed_any (some ⟨w.heap.size, p, none⟩) (16 - p) (16 - p) _ (b.drop p) _ (Nat.le_refl _) (by unfold maxLen; omega) (by rw [← hl]; exact hr)
  rw [tf_is (show 4 ≤ (b.drop p).length by rw [List.length_drop]; omega)] at hf
  have hz : 0 ≤ (Wire.fk (b.drop p) 4 : Int) ∧ (Wire.fk (b.drop p) 4 : Int) < 4294967296 := by
    have := Wire.fk_lt (b.drop p) 4
    omega
  generalize (Wire.fk (b.drop p) 4 : Int) = z at hf hz
  have hUs : U.size = 16 := by rw [hU]; simpa using hl
  clear hr ha hU hl
  obtain ⟨hz0, hz1⟩ := hz
  rcases hp with rfl | rfl | rfl
  all_goals
    have HF := Lib.hid hf
    clear hf
    go_enter Try.func26, Try.ntmps26
    go_wp2_with fail
    refine HF.out.mono ?_
    rintro e w2 ⟨rfl, hw⟩; subst w2
    go_wp2
    go_ret
    exact ⟨rfl, HB.out⟩

end Go.Proofs.Ytbdompmhgjkgbaa.MarkPkg
