/-
  What the document's queues do, the small calls: New, Own, first, Len, Busy, Same.
-/
import Derived.Test.YtkpneckgpolaoaaQueueRefMem
import Derived.BigQuiet
namespace Go.Proofs.Ytkpneckgpolaoaa.QueueRef
open Go.RowKit Queue QueuePkg
set_option maxRecDepth 4000

theorem rNew_bad (ch : Int) (h : ¬ (1 ≤ ch ∧ ch ≤ 4)) (w : World) : Calls Try.prog 10 #[.int .i64 ch] w fun e w' => e = .returned (.tuple #[.pointer none, .int .i64 1]) ∧ w' = w := by
  by_cases h1 : ch < 1
  · clear h
    go_enter Try.func10, Try.ntmps10
    go_wp2
    go_ret2
    exact ⟨rfl, rfl⟩
  · have h4 : 4 < ch := by omega
    clear h
    go_enter Try.func10, Try.ntmps10
    go_wp2
    go_ret2
    exact ⟨rfl, rfl⟩

theorem rNew_ok (ch : Int) (h1 : 1 ≤ ch) (h4 : ch ≤ 4) (w : World) : Calls Try.prog 10 #[.int .i64 ch] w fun e w' => e = .returned (.tuple #[ptr w.heap.size, .int .i64 0]) ∧ w' = w.alloc (.cells #[.int .i64 ch, .slice none 0 0] 53) := by
  have g1 : decide (ch < 1) = false := by simpa using h1
  have g4 : decide (4 < ch) = false := by simpa using h4
  go_enter Try.func10, Try.ntmps10
  go_wp2
  go_ret2
  exact ⟨rfl, rfl⟩

/-- A job with positions of its own. -/
theorem Own_any (j : Jb) (A : Option Addr) (n c B : Nat) (w : World) (hn : n ≤ 1000000000) (hr : Nums w B A n j.d) (hB : B ≤ w.heap.size) :
    Calls Try.prog 29 #[jobV j (.slice A n c)] w fun e w' => ∃ v, e = .returned (jobV j v) ∧ OwnI w' w.heap.size 3 v j.d ∧ Below w.heap.size w w' := by
  obtain ⟨k, l, u, p, d⟩ := j
  dsimp only at hr
  have hlen : ([] : List Int).length + n ≤ 1000000000000 := by simp; omega
  obtain ⟨Y, hY⟩ : ∃ Y, Y = (w.alloc (.cells #[.int .i64 k, .int .i64 l, .int .i64 u, .int .i64 p, .slice A n c] 32)).alloc (.cells #[.int .i64 0, .int .i64 0, .int .i64 0, .int .i64 0, .slice none 0 0] 32) := ⟨_, rfl⟩
  have hb0 : Below w.heap.size w (Y.alloc (.cells #[] 3)) := by rw [hY]; exact (((Below.refl _ _).alloc (Nat.le_refl _) _).alloc (by simp) _).alloc (by simp; omega) _
  have hF1 : Five Y w.heap.size 32 (.int .i64 k) (.int .i64 l) (.int .i64 u) (.int .i64 p) (.slice A n c) := by rw [hY]; exact (Five.new w _ _ _ _ _ _).old _
  have hF2 : Five Y (w.heap.size + 1) 32 (.int .i64 0) (.int .i64 0) (.int .i64 0) (.int .i64 0) (.slice none 0 0) := by
    rw [hY]
    have h := Five.new (w.alloc (.cells #[.int .i64 k, .int .i64 l, .int .i64 u, .int .i64 p, .slice A n c] 32)) 32 (.int .i64 0) (.int .i64 0) (.int .i64 0) (.int .i64 0) (.slice none 0 0)
    rwa [World.size_alloc] at h
  have HO0 : Hid (OwnI (Y.alloc (.cells #[] 3)) (w.heap.size + 1 + 1) 3 (.slice (some ⟨w.heap.size + 1 + 1, 0, none⟩) 0 0) []) := Lib.hid (by
    have h := ownI_new0 Y 3
    rwa [show Y.heap.size = w.heap.size + 1 + 1 by rw [hY]; simp] at h)
  have HR := Lib.hid (nums_keep (nums_more hr hB) hb0)
  have HB := Lib.hid hb0
  clear hr hb0
  replace hF1 := hF1.old (.cells #[] 3)
  replace hF2 := hF2.old (.cells #[] 3)
  obtain ⟨c0, c1, c2, c3, c4⟩ := hF1.cells
  have H1 := Lib.hid hF1
  have H2 := Lib.hid hF2
  have hle : w.heap.size + 1 + 1 ≤ (Y.alloc (.cells #[] 3)).heap.size := by rw [hY]; simp
  have HL := Lib.hid hle
  clear hF1 hF2 hle
  rw [hY] at HL HO0 HR H1 H2 HB c0 c1 c2 c3 c4
  go_enter Try.func29, Try.ntmps29
  go_wp2_with (at_builtin; refine wpList_append_nums _ rfl _ _ _ rfl _ 3 Try.underlying30 info64 _ [] rfl HO0.out w.heap.size A n c d rfl HR.out hlen HL.out ?_)
  intro v2 w2 ho2 hg2
  have hbk : ∀ b, b < w.heap.size + 2 → w2.heap[b]? = (((w.alloc (.cells #[.int .i64 k, .int .i64 l, .int .i64 u, .int .i64 p, .slice A n c] 32)).alloc (.cells #[.int .i64 0, .int .i64 0, .int .i64 0, .int .i64 0, .slice none 0 0] 32)).alloc (.cells #[] 3)).heap[b]? := fun b hb => hg2.block b (by simp; omega) (fun e => by simp [Value.ownBlock] at e; omega)
  replace H1 := Lib.hid (H1.out.keep (hbk _ (by omega)))
  replace H2 := Lib.hid (H2.out.keep (hbk _ (by omega)))
  replace HB := Lib.hid (HB.out.grown hg2 (by simp; omega) (fun k hk => by simp [Value.ownBlock] at hk; omega))
  obtain ⟨A2, n2, c2', rfl⟩ := ho2.form
  have HO := Lib.hid ho2
  clear ho2 hg2 hbk HL HO0 HR hY Y c0 c1 c2 c3 c4
  obtain ⟨b0, b1, b2, b3, b4⟩ := H1.out.cells
  obtain ⟨e0, e1, e2, e3, e4⟩ := H1.out.free
  go_upto_region 2 with fail
  refine at_wld ?_
  intro Z hZ
  have h1 := five_set4 H1.out (.slice A2 n2 c2')
  have h2 : Five (w2.setCell ⟨w.heap.size, 4, none⟩ (.slice A2 n2 c2')) (w.heap.size + 1) 32 (.int .i64 0) (.int .i64 0) (.int .i64 0) (.int .i64 0) (.slice none 0 0) := H2.out.keep (Below.heap_setCell _ _ _ _ (Nat.succ_ne_self _))
  have hb := HB.out.setCell (p := ⟨w.heap.size, 4, none⟩) (Nat.le_refl w.heap.size) (.slice A2 n2 c2')
  have ho := HO.out.keep (w' := w2.setCell ⟨w.heap.size, 4, none⟩ (.slice A2 n2 c2')) (fun b hb => Below.heap_setCell _ _ _ _ (by have := HO.out.block b hb; show b ≠ w.heap.size; omega))
  rw [← hZ] at h1 h2 hb ho
  replace H2 := Lib.hid h2
  replace HB := Lib.hid hb
  replace HO := Lib.hid ho
  clear hZ h2 hb ho H1 b0 b1 b2 b3 b4 e0 e1 e2 e3 e4
  obtain ⟨b0, b1, b2, b3, b4⟩ := h1.cells
  obtain ⟨e0, e1, e2, e3, e4⟩ := H2.out.free
  obtain ⟨f0, f1, f2, f3, f4⟩ := H2.out.cells
  clear h1
  go_wp2
  have hP := H2.out.set (.int .i64 k) (.int .i64 l) (.int .i64 u) (.int .i64 p) (.slice A2 n2 c2')
  have HX := Lib.hid (below_set5 HB.out (Nat.le_succ _) (.int .i64 k) (.int .i64 l) (.int .i64 u) (.int .i64 p) (.slice A2 n2 c2'))
  have HK : Hid (∀ b, w.heap.size + 2 ≤ b → (((((Z.setCell ⟨w.heap.size + 1, 0, none⟩ (.int .i64 k)).setCell ⟨w.heap.size + 1, 1, none⟩ (.int .i64 l)).setCell ⟨w.heap.size + 1, 2, none⟩ (.int .i64 u)).setCell ⟨w.heap.size + 1, 3, none⟩ (.int .i64 p)).setCell ⟨w.heap.size + 1, 4, none⟩ (.slice A2 n2 c2')).heap[b]? = Z.heap[b]?) := Lib.hid (fun b hb => other_set5 (by omega) _ _ _ _ _)
  clear H2 HB b0 b1 b2 b3 b4 e0 e1 e2 e3 e4 f0 f1 f2 f3 f4
  generalize World.setCell _ _ _ = V at hP HX HK ⊢
  obtain ⟨P0, P1, P2, P3, P4⟩ := hP.cells
  refine bodyPost_ret (v := jobV ⟨k, l, u, p, d⟩ (.slice A2 n2 c2')) ?_ rfl ⟨_, rfl, ?_, HX.out⟩
  · simp [results, Try.results29, go_sem, P0, P1, P2, P3, P4]
  · have h := HO.out.keep fun b hb => HK.out b (HO.out.block b hb)
    exact ⟨h.1, h.2.imp id fun ⟨g, cap, cur, hv, hg, r⟩ => ⟨g, cap, cur, hv, by omega, r⟩⟩

/-- Two jobs that are the same are found so. -/
theorem Same_any (j : Jb) (A A2 : Option Addr) (n c c2 : Nat) (w : World) (h1 : Nums w w.heap.size A n j.d) (h2 : Nums w w.heap.size A2 n j.d) (hn : n ≤ 1000000000) :
    Calls Try.prog 12 #[jobV j (.slice A n c), jobV j (.slice A2 n c2)] w fun e w' => e = .returned (.bool true) ∧ Below w.heap.size w w' := by
  obtain ⟨k, l, u, p, d⟩ := j
  obtain ⟨Y, hY⟩ : ∃ Y, Y = (w.alloc (.cells #[.int .i64 k, .int .i64 l, .int .i64 u, .int .i64 p, .slice A n c] 32)).alloc (.cells #[.int .i64 k, .int .i64 l, .int .i64 u, .int .i64 p, .slice A2 n c2] 32) := ⟨_, rfl⟩
  have hb0 : Below w.heap.size w Y := by rw [hY]; exact ((Below.refl _ _).alloc (Nat.le_refl _) _).alloc (by simp) _
  have hF1 : Five Y w.heap.size 32 (.int .i64 k) (.int .i64 l) (.int .i64 u) (.int .i64 p) (.slice A n c) := by rw [hY]; exact (Five.new w _ _ _ _ _ _).old _
  have hF2 : Five Y (w.heap.size + 1) 32 (.int .i64 k) (.int .i64 l) (.int .i64 u) (.int .i64 p) (.slice A2 n c2) := by
    rw [hY]
    have h := Five.new (w.alloc (.cells #[.int .i64 k, .int .i64 l, .int .i64 u, .int .i64 p, .slice A n c] 32)) 32 (.int .i64 k) (.int .i64 l) (.int .i64 u) (.int .i64 p) (.slice A2 n c2)
    rwa [World.size_alloc] at h
  have N1 := Lib.hid (nums_keep h1 hb0)
  have N2 := Lib.hid (nums_keep h2 hb0)
  have H1 := Lib.hid hF1
  have H2 := Lib.hid hF2
  have HB := Lib.hid hb0
  obtain ⟨b0, b1, b2, b3, b4⟩ := hF1.cells
  obtain ⟨e0, e1, e2, e3, e4⟩ := hF2.cells
  clear hF1 hF2 h1 h2 hb0
  rw [hY] at N1 N2 H1 H2 HB b0 b1 b2 b3 b4 e0 e1 e2 e3 e4
  go_enter Try.func12, Try.ntmps12
  go_wp2
  rw [← hY] at N1 N2 H1 H2 HB ⊢
  clear hY b0 b1 b2 b3 b4 e0 e1 e2 e3 e4
  go_loopw [5] (fun i wr => ∃ j : Nat, j ≤ n ∧ i = .int .i64 (j : Int) ∧ Below Y.heap.size Y wr) (fun i _ => n - (intOf i).toNat)
  case atStart => exact ⟨0, by omega, rfl, Below.refl _ _⟩
  case round =>
    obtain ⟨j, hj, rfl, hbw⟩ := hrel
    have HBW := Lib.hid hbw
    clear hbw
    obtain ⟨b0, b1, b2, b3, b4⟩ := (H1.out.below HBW.out).cells
    obtain ⟨e0, e1, e2, e3, e4⟩ := (H2.out.below HBW.out).cells
    by_cases hjn : j < n
    · have hjn2 : (j : Int) < (n : Int) := by omega
      have hj0 : (0 : Int) ≤ (j : Int) := by omega
      have hbw2 : Below w.heap.size Y wr := HBW.out.mono HB.out.size
      obtain ⟨bl1, o1, z1, rfl, _, hz1, k1, _⟩ := (nums_keep N1.out hbw2).at_ hjn
      obtain ⟨bl2, o2, z2, rfl, _, hz2, k2, _⟩ := (nums_keep N2.out hbw2).at_ hjn
      obtain rfl : z1 = z2 := by rw [hz1] at hz2; injection hz2
      clear hz1 hz2 hbw2
      go_wp2
      go_quiet (fail)
      go_wp2
      go_roundw
      case rel => exact ⟨j + 1, by omega, by go_num, below_draws HBW.out _⟩
      case measure => simp [intOf]; omega
    · go_wp2
      go_ret
      exact ⟨rfl, HB.out.trans (HBW.out.mono HB.out.size)⟩

end Go.Proofs.Ytkpneckgpolaoaa.QueueRef
