/-
  What slices.Delete of a ring's slots does: the first ones go.
-/
import Derived.Test.YtecmmihobojjpaaRingPos
import Derived.Test.YtecmmihobojjpaaRowsCut
import Derived.Deep.RegionLaw
namespace Go.Proofs.Ytecmmihobojjpaa.RingPkg
open Go.RowKit Ring
set_option maxRecDepth 4000

theorem infoH : rowInfo Try.prog 66 6 64 := by
  have h : ((Try.prog.info? 66).bind (·.zero)).map (·.cells.size) = some 6 := by kernel_rfl
  cases hz : ((Try.prog.info? 66).bind (·.zero)) with
  | none => rw [hz] at h; cases h
  | some z =>
    rw [hz] at h
    injection h with h
    exact ⟨_, z, rfl, hz, by kernel_rfl, by kernel_rfl, h⟩

theorem zeroH : ∀ i, Try.prog.info? 66 = some i → ∀ z, i.zero = some z → ∀ u ∈ z.cells.toList, u.oneCell' = true := by
  intro i hi z hz u hu
  have h : ((Try.prog.info? 66).bind (·.zero)).map (fun z => z.cells.toList.all (·.oneCell')) = some true := by kernel_rfl
  rw [hi] at h
  simp only [Option.bind_some, hz, Option.map_some, Option.some.injEq, List.all_eq_true] at h
  exact h u hu

set_option maxHeartbeats 1000000 in
theorem Delete_none (b n c : Nat) (w : World) (hn : n ≤ c) (_hc : c ≤ maxLen) : Calls Try.prog 52 #[.slice (some ⟨b, 0, none⟩) n c, .int .i64 0, .int .i64 0] w fun e w' => e = .returned (.slice (some ⟨b, 0, none⟩) n c) ∧ w' = w := by
  have hc := _hc
  unfold maxLen at hc
  go_enter Try.func52, Try.ntmps52
  go_wp2
  all_goals
    go_ret
    exact ⟨rfl, rfl⟩

set_option maxHeartbeats 1000000 in
theorem Delete_some (b c j : Nat) (cs : List (List Value)) (w : World) (h : OwnR w 0 66 6 (.slice (some ⟨b, 0, none⟩) cs.length c) cs) (h1 : ∀ r ∈ cs, ∀ u ∈ r, u.oneCell' = true) (hj0 : 0 < j) (hj : j ≤ cs.length) :
    Calls Try.prog 52 #[.slice (some ⟨b, 0, none⟩) cs.length c, .int .i64 0, .int .i64 j] w fun e w' => e = .returned (.slice (some ⟨b, 0, none⟩) (cs.length - j) c) ∧ OwnR w' 0 66 6 (.slice (some ⟨b, 0, none⟩) (cs.length - j) c) (cs.drop j) ∧ w.grownBy w' (some b) := by
  have HR := Lib.hid h
  obtain ⟨cur, hcur, hsz, hcm, hnc, htk⟩ : ∃ cur : List Value, w.heap[b]? = some (.cells cur.toArray 66 (0, 0)) ∧ cur.length = c * 6 ∧ c ≤ maxLen ∧ cs.length ≤ c ∧ cur.take (cs.length * 6) = cs.flatten := by
    rcases h.row.2 with ⟨hv, _⟩ | ⟨g', cap', cur', hv, hb, hg, hnc, hcm, hcs, ht⟩
    · cases hv
    · injection hv with h1 h2 h3
      injection h1 with h1
      injection h1 with h1
      subst h1 h3
      exact ⟨cur'.toList, by rw [Array.toArray_toList]; exact hg, by simpa using hcs, hcm, hnc, ht⟩
  have hon : ∀ u ∈ (cur.drop (j * 6)).take ((cs.length - j) * 6), u.oneCell' = true := by
    intro u hu
    have e : (cur.drop (j * 6)).take ((cs.length - j) * 6) = cs.flatten.drop (j * 6) := by
      rw [← htk, List.drop_take]
      congr 1
      omega
    rw [e] at hu
    obtain ⟨r, hr, hu⟩ := List.mem_flatten.1 (List.mem_of_mem_drop hu)
    exact h1 r hr u hu
  obtain ⟨n, hn⟩ : ∃ n, n = cs.length := ⟨_, rfl⟩
  rw [← hn] at hnc hj hon htk ⊢
  have hHC := hcur
  have HC := Lib.hid hHC
  have HN := Lib.hid hn
  have hnj : n - j ≤ n := Nat.sub_le _ _
  unfold maxLen at hcm
  obtain ⟨ad, had, hsl⟩ : ∃ ad : Addr, (j < n → ad = ⟨b, j * 6, none⟩) ∧ ad = (if c = j then (⟨b, 0, none⟩ : Addr) else ⟨b, j * 6, none⟩) := ⟨_, fun h => if_neg (by omega), rfl⟩
  obtain ⟨w1, hrun, hw1, hg1⟩ := run_append_cut (P := Try.prog) (w := w.drew) (cur := cur.toArray) 56 6 64 Try.underlying56 infoH hcur c j n (c - j) hj hnc (by simpa using hsz) hon ad had
  have hsz1 : (((cur.drop (j * 6)).take ((n - j) * 6) ++ cur.drop ((n - j) * 6)).toArray).size = c * 6 := by simp; omega
  have hnn : n - (n - j) = j := by omega
  obtain ⟨w2, zs, hclr, hzl, _, hw2, hg2⟩ := run_clear_rows (P := Try.prog) (w := w1) 56 6 64 Try.underlying56 infoH zeroH hw1 ((n - j) * 6) (n - (n - j)) (c - (n - j)) (by omega) (by rw [hsz1]; omega)
  rw [hnn] at hzl hw2
  clear hnn
  have HW2 := Lib.hid hw2
  have HZ := Lib.hid hzl
  have HG := Lib.hid (And.intro hg1 hg2)
  have HAD := Lib.hid had
  clear h h1 hcur hHC hsz htk hon hn hw1 hw2 hzl hg1 hg2 hsz1 had
  have HEND : Hid (OwnR w2 0 66 6 (.slice (some ⟨b, 0, none⟩) (n - j) c) (cs.drop j) ∧ w.grownBy w2 (some b)) := Lib.hid (by
    have hgg := HG.out.1.trans HG.out.2
    refine ⟨?_, ⟨hgg.os, hgg.tape, hgg.output, hgg.size, hgg.block⟩⟩
    have hq := HR.out.cut (w' := w2) j (by rw [← HN.out]; exact hj) HC.out HZ.out (by rw [← HN.out]; exact HW2.out)
    rw [HN.out]
    exact hq)
  clear HR HC HN HW2 HZ HG HAD
  rcases Decidable.em (c = j) with hcj | hcj
  · rw [if_pos hcj] at hsl
    obtain rfl : c = n := by omega
    obtain rfl : c = j := hcj
    subst hsl
    simp only [Nat.sub_self, Nat.sub_zero, Nat.zero_mul] at hrun hclr HEND
    rw [Nat.sub_self]
    clear hj hnc hnj
    go_enter Try.func52, Try.ntmps52
    go_upto_region 5 with fail
    go_region_law (refine step_append_run (by rfl) (.tmp 22) (.tmp 25) 56 (by rfl) (.slice (some ⟨b, 0, none⟩) 0 c) (.slice (some ⟨b, 0, none⟩) 0 0) (.slice (some ⟨b, 0, none⟩) 0 c) (by rfl) (by rfl) hrun ?_)
    go_wp2
    go_ret
    exact ⟨rfl, HEND.out⟩
  · rw [if_neg hcj] at hsl
    subst hsl
    go_enter Try.func52, Try.ntmps52
    go_upto_region 5 with fail
    go_region_law (refine step_append_run (by rfl) (.tmp 22) (.tmp 25) 56 (by rfl) (.slice (some ⟨b, 0, none⟩) 0 c) (.slice (some ⟨b, j * 6, none⟩) (n - j) (c - j)) (.slice (some ⟨b, 0, none⟩) (n - j) c) (by rfl) (by rfl) hrun ?_)
    go_wp2
    go_ret
    exact ⟨rfl, HEND.out⟩
end Go.Proofs.Ytecmmihobojjpaa.RingPkg
