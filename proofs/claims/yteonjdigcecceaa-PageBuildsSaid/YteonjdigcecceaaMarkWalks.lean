/-
  What each function of package mark does: one contract a function, over the mathematics of MarkMath. The first part: beside, Right, letter, fixed.
-/
import Derived.Test.YteonjdigcecceaaMarkMath
import Derived.Test.YteonjdigcecceaaOobRight
import Derived.Test.YteonjdigcecceaaThree
import Derived.Deep.DeepCutAuto
namespace Go.Proofs.Yteonjdigcecceaa.MarkPkg
open Go.RowKit Go.ChangeShapes Go.WideShapes Go.Proofs.Yteonjdigcecceaa.OobPkg
set_option maxRecDepth 4000
attribute [-go_sem] loadCellsFrom storeCells

theorem beside_any (l r s : Int) (w : World) :
    Calls Try.prog 47 #[tri l r s] w fun e w' => e = .returned (tri 4 l s) ∧ Below w.heap.size w w' := by
  have HB := Lib.hid (show Below w.heap.size w ((w.alloc (.cells #[.int .i64 l, .int .i64 r, .int .i64 s] 33)).alloc (.cells #[.int .i64 0, .int .i64 0, .int .i64 0] 44)) from ((Below.refl w.heap.size w).alloc (Nat.le_refl _) _).alloc (by simp) _)
  have HT : Three 44 ((w.alloc (.cells #[.int .i64 l, .int .i64 r, .int .i64 s] 33)).alloc (.cells #[.int .i64 0, .int .i64 0, .int .i64 0] 44)) (w.heap.size + 1) 0 0 0 := Three.newAt (by simp) 0 0 0
  obtain ⟨w2, hst, ht, hb⟩ := HT.store Try.prog 4 l s
  have hld := ht.load (P := Try.prog)
  have HB2 := Lib.hid (HB.out.trans (hb.mono (by omega)))
  clear ht hb HT
  go_enter Try.func47, Try.ntmps47
  go_wp2
  refine bodyPost_ret (v := tri 4 l s) ?_ rfl ⟨rfl, HB2.out⟩
  simp [results, Try.results47, go_sem, hld]

/-- Right, whatever it is given. -/
theorem right_any (l r s : Int) (w : World) :
    Calls Try.prog 45 #[tri l r s] w fun e w' => e = .returned (.bool (decide (Mark.Ok l r s))) ∧ Below w.heap.size w w' := by
  have HB := Lib.hid ((Below.refl w.heap.size w).alloc (Nat.le_refl _) (.cells #[.int .i64 l, .int .i64 r, .int .i64 s] 33))
  have HT := Lib.hid (Three.new 33 w l r s)
  have done : ∀ {x y : Bool} {w'}, x = y → Below w.heap.size w w' → Ending.returned (.bool x) = .returned (.bool y) ∧ Below w.heap.size w w' := fun h hb => ⟨by rw [h], hb⟩
  by_cases h1 : l < 64
  · by_cases h2 : 0 ≤ r
    · by_cases h3 : r ≤ 2147483647
      · have hld := HT.out.load (P := Try.prog)
        have hc0 := HT.out.c0
        have hc1 := HT.out.c1
        go_enter Try.func45, Try.ntmps45
        go_wp2_with fail
        refine (beside_any l r s _).mono ?_
        rintro e w2 ⟨rfl, hb⟩
        have HB2 := Lib.hid (below_on HB.out hb)
        clear hb hld hc0 hc1
        go_wp2_with fail
        refine (OobPkg.right_any 4 l s _).mono ?_
        rintro e w3 ⟨rfl, hb⟩
        have HB3 := Lib.hid (below_on HB2.out hb)
        clear hb
        obtain ⟨z, hz⟩ : ∃ z, z = decide (Oob.Ok 4 l s) := ⟨_, rfl⟩
        rw [← hz]
        have HZ := Lib.hid hz
        clear hz
        go_wp2
        go_ret
        refine done ?_ HB3.out
        rw [HZ.out, Bool.eq_iff_iff]
        simp only [decide_eq_true_eq]
        unfold Oob.Ok Mark.Ok
        omega
      · have hc0 := HT.out.c0
        have hc1 := HT.out.c1
        go_enter Try.func45, Try.ntmps45
        go_wp2
        go_ret
        refine done ?_ HB.out
        rw [Bool.eq_iff_iff]
        simp only [decide_eq_true_eq, Bool.false_eq_true, false_iff]
        unfold Mark.Ok
        omega
    · have hc0 := HT.out.c0
      have hc1 := HT.out.c1
      go_enter Try.func45, Try.ntmps45
      go_wp2
      go_ret
      refine done ?_ HB.out
      rw [Bool.eq_iff_iff]
      simp only [decide_eq_true_eq, Bool.false_eq_true, false_iff]
      unfold Mark.Ok
      omega
  · have hc0 := HT.out.c0
    have hc1 := HT.out.c1
    go_enter Try.func45, Try.ntmps45
    go_wp2
    go_ret
    refine done ?_ HB.out
    rw [Bool.eq_iff_iff]
    simp only [decide_eq_true_eq, Bool.false_eq_true, false_iff]
    unfold Mark.Ok
    omega

/-- The letters. -/
def letters : List UInt8 := [65, 66, 67, 68, 69, 70, 71]

theorem letter_at (r : Int) : letters[(r % 7).toNat]? = some (Mark.letter r) := by
  have h7 : (r % 7).toNat < 7 := by omega
  unfold Mark.letter
  generalize (r % 7).toNat = k at h7
  match k, h7 with
  | 0, _ => rfl
  | 1, _ => rfl
  | 2, _ => rfl
  | 3, _ => rfl
  | 4, _ => rfl
  | 5, _ => rfl
  | 6, _ => rfl

theorem letter_any (r : Int) (w : World) (h0 : 0 ≤ r) :
    Calls Try.prog 55 #[.int .i64 r] w fun e w' => e = .returned (.int .u8 ((Mark.letter r).toNat : Int)) ∧ Below w.heap.size w w' := by
  have ha := Arr.new w 94 (List.replicate 7 0)
  obtain ⟨w2, hst0, ha2, hb2⟩ := run_store_arr (P := Try.prog) (ys := letters) ha rfl
  have hst : (storeCells ⟨w.heap.size, 0, none⟩ [.int .u8 65, .int .u8 66, .int .u8 67, .int .u8 68, .int .u8 69, .int .u8 70, .int .u8 71]).run Try.prog (w.alloc (.cells #[.int .u8 0, .int .u8 0, .int .u8 0, .int .u8 0, .int .u8 0, .int .u8 0, .int .u8 0] 94)) = .ok () w2 := hst0
  have HB := Lib.hid (((Below.refl w.heap.size w).alloc (Nat.le_refl _) (.cells ((List.replicate 7 (0 : UInt8)).map cellOf).toArray 94)).trans hb2)
  have hc := ha2.cell (letter_at r)
  have hm : r.tmod 7 = r % 7 := Int.tmod_eq_emod_of_nonneg h0
  have h70 : 0 ≤ r % 7 := by omega
  have h77 : r % 7 < 7 := by omega
  generalize ((Mark.letter r).toNat : Int) = y at hc ⊢
  clear hst0 ha ha2 hb2
  go_enter Try.func55, Try.ntmps55
  go_wp2
  go_ret
  exact ⟨rfl, HB.out⟩

theorem tf_is {xs : List UInt8} (h : 4 ≤ xs.length) : tf xs = ((Wire.fk xs 4 : Int), 0) := by
  unfold tf
  rw [if_neg (by omega)]

end Go.Proofs.Yteonjdigcecceaa.MarkPkg
