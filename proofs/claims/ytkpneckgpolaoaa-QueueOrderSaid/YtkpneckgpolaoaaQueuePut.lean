/-
  What package queue's Put does.
-/
import Derived.Test.YtkpneckgpolaoaaQueueTake
import Derived.Test.YtkpneckgpolaoaaHeld
import Derived.Test.YtkpneckgpolaoaaRowsCut
namespace Go.Proofs.Ytkpneckgpolaoaa.QueuePkg
open Go.RowKit Queue
set_option maxRecDepth 4000

theorem infoJ : rowInfo Try.prog 32 5 56 := by
  have h : ((Try.prog.info? 32).bind (·.zero)).map (·.cells.size) = some 5 := by kernel_rfl
  cases hz : ((Try.prog.info? 32).bind (·.zero)) with
  | none => rw [hz] at h; cases h
  | some z =>
    rw [hz] at h
    injection h with h
    exact ⟨_, z, rfl, hz, by kernel_rfl, by kernel_rfl, h⟩

theorem Put_out {w : World} {P : Pl} {ch : Int} {rs : Nat → List Row} (h : Qs w P ch rs) (c : Int) (hc : ¬ (0 ≤ c ∧ c < ch)) (j : Jb) (A : Option Addr) (n m : Nat) :
    Calls Try.prog 16 #[ptr P.g, .int .i64 c, jobV j (.slice A n m)] w fun e w' => e = .returned (.int .i64 2) ∧ Below w.heap.size w w' := by
  obtain ⟨k, l, u, p, d⟩ := j
  have hb := (Below.refl w.heap.size w).alloc (Nat.le_refl _) (.cells #[.int .i64 k, .int .i64 l, .int .i64 u, .int .i64 p, .slice A n m] 32)
  have hH := has_any (h.below hb) c
  rw [decide_eq_false hc] at hH
  have HH := Lib.hid hH
  have HB := Lib.hid hb
  clear h hc hH hb
  go_enter Try.func16, Try.ntmps16
  go_wp2_with fail
  refine HH.out.mono ?_
  rintro e w2 ⟨rfl, rfl⟩
  clear HH
  go_wp2
  go_ret
  exact ⟨rfl, HB.out⟩

set_option maxHeartbeats 4000000 in
theorem Put_in {w : World} {P : Pl} {ch : Int} {rs : Nat → List Row} (h : Qs w P ch rs) (c : Nat) (hc : (c : Int) < ch) (j : Jb) (A : Option Addr) (n m B : Nat) (hn : n ≤ 1000000000) (hr : Nums w B A n j.d) (hB : B ≤ w.heap.size) (hl : (rs c).length ≤ 1000000000) :
    Calls Try.prog 16 #[ptr P.g, .int .i64 (c : Int), jobV j (.slice A n m)] w fun e w' => e = .returned (.int .i64 0) ∧ ∃ (P' : Pl) (r : Row), r.j = j ∧ P'.g = P.g ∧ Qs w' P' ch (fun i => if i = c then rs c ++ [r] else rs i) ∧ Turn P.own P'.own w w' := by
  have hc4 : c < 4 := by have := h.top; omega
  have hc5 : (c : Int) < 4 := by omega
  have hc0 : (0 : Int) ≤ (c : Int) := by omega
  obtain ⟨k, l, u, p, d⟩ := j
  dsimp only at hr
  have hb := (Below.refl w.heap.size w).alloc (Nat.le_refl _) (.cells #[.int .i64 k, .int .i64 l, .int .i64 u, .int .i64 p, .slice A n m] 32)
  have hH := has_any (h.below hb) (c : Int)
  rw [decide_eq_true (show 0 ≤ (c : Int) ∧ (c : Int) < ch by omega)] at hH
  have HH := Lib.hid hH
  obtain ⟨Av, kv, hv, _⟩ := h.slice hc4
  have HV := Lib.hid hv
  obtain ⟨q, hq⟩ : ∃ q, (rs c).length = q := ⟨_, rfl⟩
  have HQ := Lib.hid hq
  rw [hq] at HV hl
  have HR := Lib.hid (h.below hb)
  have HI := Lib.hid hr.in64
  have HD : Hid (d.length = n) := Lib.hid hr.1
  have HBX := Lib.hid (Five.new w 32 (.int .i64 k) (.int .i64 l) (.int .i64 u) (.int .i64 p) (.slice A n m))
  have HBR := Lib.hid (nums_keep (nums_more hr hB) hb)
  have HB := Lib.hid hb
  have HLT := Lib.hid h.lt
  have HCC := Lib.hid hc
  clear h hc hH hb hr hv hq
  go_enter Try.func16, Try.ntmps16
  go_wp2_with fail
  refine HH.out.mono ?_
  rintro e w2 ⟨rfl, rfl⟩
  clear HH
  go_upto_region 3 with fail
  refine at_wld ?_
  intro Y hY
  rw [← hY] at HR HBX HBR HB
  clear hY
  have HLTB := Lib.hid HBX.out.lt
  have HBG : Hid (w.heap.size ≠ P.g) := Lib.hid (fun e => by have := HLT.out P.g (.inl rfl); omega)
  have HBV : Hid ((P.v c).ownBlock ≠ some w.heap.size) := Lib.hid (fun e => by have := HLT.out _ (.inr (.inl ⟨c, hc4, e⟩)); omega)
  have gc := HR.out.cell hc4
  rw [HV.out] at gc
  have fg := HR.out.free (1 + c)
  have HC := Lib.hid (copied_any ⟨k, l, u, p, d⟩ A n m w.heap.size Y.drew hn HBR.out HB.out.size)
  have S0 := HBX.out.cells
  have HGL := Lib.hid HR.out.g_lt
  refine wp_region_held_drew (S := fun w' => w'.cell? ⟨w.heap.size, 0, none⟩ = some (.int .i64 k) ∧ w'.cell? ⟨w.heap.size, 1, none⟩ = some (.int .i64 l) ∧ w'.cell? ⟨w.heap.size, 2, none⟩ = some (.int .i64 u) ∧ w'.cell? ⟨w.heap.size, 3, none⟩ = some (.int .i64 p) ∧ w'.cell? ⟨w.heap.size, 4, none⟩ = some (.slice A n m)) (by kernel_rfl) ?_ (fun hHeld => ?_)
  · exact S0
  refine Hand.held_take (i := 0) (d := 11) (v := ?_) rfl rfl (by kernel_rfl) (by kernel_rfl) (by kernel_rfl) (by rfl) ?_ (by assumption) (fun _ _ _ h => h) ?_
  rotate_left
  · intro w hSw
    go_simp
    with_reducible rfl
  try simp only [Act.put, List.setIfInBounds_toArray, List.set_cons_zero, List.set_cons_succ]
  refine Hand.held_take (i := 1) (d := 12) (v := ?_) rfl rfl (by kernel_rfl) (by kernel_rfl) (by kernel_rfl) (by rfl) ?_ (by assumption) (fun _ _ _ h => h) ?_
  rotate_left
  · intro w hSw
    go_simp
    with_reducible rfl
  try simp only [Act.put, List.setIfInBounds_toArray, List.set_cons_zero, List.set_cons_succ]
  refine Hand.held_take (i := 2) (d := 13) (v := ?_) rfl rfl (by kernel_rfl) (by kernel_rfl) (by kernel_rfl) (by rfl) ?_ (by assumption) (fun _ _ _ h => h) ?_
  rotate_left
  · intro w hSw
    go_simp
    with_reducible rfl
  try simp only [Act.put, List.setIfInBounds_toArray, List.set_cons_zero, List.set_cons_succ]
  refine Hand.held_take (i := 3) (d := 14) (v := ?_) rfl rfl (by kernel_rfl) (by kernel_rfl) (by kernel_rfl) (by rfl) ?_ (by assumption) (fun _ _ _ h => h) ?_
  rotate_left
  · intro w hSw
    go_simp
    with_reducible rfl
  try simp only [Act.put, List.setIfInBounds_toArray, List.set_cons_zero, List.set_cons_succ]
  refine Hand.held_take (i := 4) (d := 15) (v := ?_) rfl rfl (by kernel_rfl) (by kernel_rfl) (by kernel_rfl) (by rfl) ?_ (by assumption) (fun _ _ _ h => h) ?_
  rotate_left
  · intro w hSw
    go_simp
    with_reducible rfl
  try simp only [Act.put, List.setIfInBounds_toArray, List.set_cons_zero, List.set_cons_succ]
  refine Hand.held_take (i := 5) (d := 16) (v := ?_) rfl rfl (by kernel_rfl) (by kernel_rfl) (by kernel_rfl) (by rfl) ?_ (by assumption) (fun _ _ _ h => h) ?_
  rotate_left
  · intro w hSw
    go_simp
    with_reducible rfl
  try simp only [Act.put, List.setIfInBounds_toArray, List.set_cons_zero, List.set_cons_succ]
  refine Hand.held_take (i := 6) (d := 17) (v := ?_) rfl rfl (by kernel_rfl) (by kernel_rfl) (by kernel_rfl) (by rfl) ?_ (by assumption) (fun _ _ _ h => h) ?_
  rotate_left
  · intro w hSw
    go_simp
    with_reducible rfl
  try simp only [Act.put, List.setIfInBounds_toArray, List.set_cons_zero, List.set_cons_succ]
  refine Hand.held_take (i := 8) (d := 19) (v := ?_) rfl rfl (by kernel_rfl) (by kernel_rfl) (by kernel_rfl) (by rfl) ?_ (by assumption) (fun _ _ _ h => h) ?_
  rotate_left
  · intro w hSw
    go_simp
    with_reducible rfl
  try simp only [Act.put, List.setIfInBounds_toArray, List.set_cons_zero, List.set_cons_succ]
  refine Hand.held_take (i := 12) (d := 23) (v := ?_) rfl rfl (by kernel_rfl) (by kernel_rfl) (by kernel_rfl) (by rfl) ?_ (by assumption) (fun _ _ _ h => h) ?_
  rotate_left
  · intro w hSw
    go_simp
    with_reducible rfl
  try simp only [Act.put, List.setIfInBounds_toArray, List.set_cons_zero, List.set_cons_succ]
  refine Hand.held_take (i := 13) (d := 24) (v := ?_) rfl rfl (by kernel_rfl) (by kernel_rfl) (by kernel_rfl) (by rfl) ?_ (by assumption) (fun _ _ _ h => h) ?_
  rotate_left
  · intro w hSw
    go_simp
    with_reducible rfl
  try simp only [Act.put, List.setIfInBounds_toArray, List.set_cons_zero, List.set_cons_succ]
  refine wpAnyH_ready (rs := [7, 9]) (by kernel_rfl) (by simp) ?_
  refine AllReadyH.cons rfl (fun K hK => ?_) (AllReadyH.cons rfl (fun K hK => ?_) AllReadyH.nil)
  · go_simp
    refine hK.out _ _ ?_ (fun hHeld => ?_)
    · first | exact S0 | exact S3 | exact S4 | exact S5 | exact S6
    clear hK K
    refine wpAnyH_ready (rs := [9]) (by kernel_rfl) (by simp) ?_
    refine AllReadyH.cons rfl (fun K hK => ?_) AllReadyH.nil
    go_simp
    go_wp2_with (go_at_call 19; refine HC.out.mono ?_; rintro e w3 ⟨v3, rfl, ho3, hb3⟩)
    obtain ⟨A3, n3, c3, rfl⟩ := ho3.form
    have HB3 : Hid (Below Y.heap.size Y w3) := Lib.hid ⟨hb3.os, hb3.tape, hb3.output, hb3.size, hb3.block⟩
    have HO3 : Hid (OwnI w3 Y.heap.size 3 (.slice A3 n3 c3) d) := Lib.hid ho3
    have gc3 := (HR.out.below HB3.out).cell hc4
    rw [HV.out] at gc3
    have gc4 : (w3.alloc (.cells #[.int .i64 k, .int .i64 l, .int .i64 u, .int .i64 p, .slice A3 n3 c3] 32)).cell? ⟨P.g, 1 + c, none⟩ = some (.slice Av q kv) := (((Below.refl w3.heap.size w3).alloc (Nat.le_refl _) _).cell (p := ⟨P.g, 1 + c, none⟩) (Nat.lt_of_lt_of_le HGL.out HB3.out.size)).trans gc3
    have S3 := (HBX.out.keep (HB3.out.block w.heap.size HLTB.out)).cells
    have S4 := (HBX.out.keep ((Below.heap_alloc w3 (.cells #[.int .i64 k, .int .i64 l, .int .i64 u, .int .i64 p, .slice A3 n3 c3] 32) _ (Nat.lt_of_lt_of_le HLTB.out HB3.out.size)).trans (HB3.out.block w.heap.size HLTB.out))).cells
    clear ho3 hb3
    refine hK.out _ _ ?_ (fun hHeld => ?_)
    · first | exact S0 | exact S3 | exact S4 | exact S5 | exact S6
    clear hK K
    refine wpAnyH_ready (rs := [10]) (by kernel_rfl) (by simp) ?_
    refine AllReadyH.cons rfl (fun K hK => ?_) AllReadyH.nil
    go_simp
    refine hK.out _ _ ?_ (fun hHeld => ?_)
    · first | exact S0 | exact S3 | exact S4 | exact S5 | exact S6
    clear hK K
    refine wpAnyH_ready (rs := [11]) (by kernel_rfl) (by simp) ?_
    refine AllReadyH.cons rfl (fun K hK => ?_) AllReadyH.nil
    obtain ⟨v4, w4, hrun, hrow4, hg4, hl4⟩ := run_append_off (P := Try.prog) w3 0 47 47 32 5 56 (by omega) (by omega) Try.underlying47 infoJ (P.v c) ((rs c).map Row.cells) ((HR.out.rows c hc4).below HB3.out) [.int .i64 k, .int .i64 l, .int .i64 u, .int .i64 p, .slice A3 n3 c3] rfl (by intro y hy; simp only [List.mem_cons, List.not_mem_nil, or_false] at hy; rcases hy with rfl | rfl | rfl | rfl | rfl <;> rfl) (by rw [List.length_map, HQ.out]; exact hl) (Nat.zero_le _)
    rw [HV.out] at hrun
    obtain ⟨A6, m6, c6, hv4⟩ : ∃ A m c, v4 = .slice A m c := by
      obtain ⟨A, c, h, _⟩ := hrow4.form
      exact ⟨_, _, _, h⟩
    obtain ⟨P', e1, e2, e3⟩ := HR.out.more hc4 HCC.out ⟨⟨k, l, u, p, d⟩, .slice A3 n3 c3⟩ HB3.out rfl HO3.out HI.out (by rw [HD.out]; exact hn) v4 hrow4 hg4 hl4
    have HEND := Lib.hid (And.intro e1 (And.intro e2 ((Turn.of_below P.own HB.out).trans e3)))
    have hB4 : w4.heap[P.g]? = w3.heap[P.g]? := (hg4.block P.g (by have := HGL.out; have := HB3.out.size; simp; omega) (fun e => HR.out.g_v c hc4 e.symm)).trans (Below.heap_alloc w3 _ _ (Nat.lt_of_lt_of_le HGL.out HB3.out.size))
    have gc5 : w4.cell? ⟨P.g, 1 + c, none⟩ = some (.slice Av q kv) := (World.cell?_of_block (a := ⟨P.g, 1 + c, none⟩) hB4).trans gc3
    have fg5 : w4.frozen? ⟨P.g, 1 + c, none⟩ = false := (World.frozen?_of_block (a := ⟨P.g, 1 + c, none⟩) hB4).trans ((HR.out.below HB3.out).free (1 + c))
    have hB5 := (hg4.block w.heap.size (by have := HLTB.out; have := HB3.out.size; simp; omega) (fun e => HBV.out e.symm)).trans ((Below.heap_alloc w3 (.cells #[.int .i64 k, .int .i64 l, .int .i64 u, .int .i64 p, .slice A3 n3 c3] 32) _ (Nat.lt_of_lt_of_le HLTB.out HB3.out.size)).trans (HB3.out.block w.heap.size HLTB.out))
    have S5 := (HBX.out.keep hB5).cells
    have S6 := (HBX.out.keep ((Below.heap_setCell w4 ⟨P.g, 1 + c, none⟩ v4 w.heap.size HBG.out).trans hB5)).cells
    subst hv4
    clear hrow4 hg4 hl4 e1 e2 e3 hB5 hB4
    refine step_append_run (o := ⟨some 22, _, _, _, _, _⟩) (by rfl) (.tmp 18) (.tmp 21) 47 (by rfl) (.slice Av q kv) (.slice (some ⟨w3.heap.size, 0, none⟩) 1 1) _ (by rfl) (by rfl) (fun _ => hrun) ?_
    refine hK.out _ _ ?_ (fun hHeld => ?_)
    · first | exact S0 | exact S3 | exact S4 | exact S5 | exact S6
    clear hK K
    refine Hand.held_take (i := 14) (d := 25) (v := ?_) rfl rfl (by kernel_rfl) (by kernel_rfl) (by kernel_rfl) (by rfl) ?_ (by assumption) (fun _ _ _ h => h) ?_
    rotate_left
    · intro w hSw
      go_simp
      with_reducible rfl
    try simp only [Act.put, List.setIfInBounds_toArray, List.set_cons_zero, List.set_cons_succ]
    refine wpAnyH_ready (rs := [15]) (by kernel_rfl) (by simp) ?_
    refine AllReadyH.cons rfl (fun K hK => ?_) AllReadyH.nil
    go_simp
    refine hK.out _ _ ?_ (fun hHeld => ?_)
    · first | exact S0 | exact S3 | exact S4 | exact S5 | exact S6
    clear hK K
    refine wpAnyH_done (by kernel_rfl) ?_ _
    clear hHeld
    go_wp2
    go_ret
    exact ⟨rfl, P', _, rfl, HEND.out⟩
  · go_simp
    go_wp2_with (go_at_call 19; refine HC.out.mono ?_; rintro e w3 ⟨v3, rfl, ho3, hb3⟩)
    obtain ⟨A3, n3, c3, rfl⟩ := ho3.form
    have HB3 : Hid (Below Y.heap.size Y w3) := Lib.hid ⟨hb3.os, hb3.tape, hb3.output, hb3.size, hb3.block⟩
    have HO3 : Hid (OwnI w3 Y.heap.size 3 (.slice A3 n3 c3) d) := Lib.hid ho3
    have gc3 := (HR.out.below HB3.out).cell hc4
    rw [HV.out] at gc3
    have gc4 : (w3.alloc (.cells #[.int .i64 k, .int .i64 l, .int .i64 u, .int .i64 p, .slice A3 n3 c3] 32)).cell? ⟨P.g, 1 + c, none⟩ = some (.slice Av q kv) := (((Below.refl w3.heap.size w3).alloc (Nat.le_refl _) _).cell (p := ⟨P.g, 1 + c, none⟩) (Nat.lt_of_lt_of_le HGL.out HB3.out.size)).trans gc3
    have S3 := (HBX.out.keep (HB3.out.block w.heap.size HLTB.out)).cells
    have S4 := (HBX.out.keep ((Below.heap_alloc w3 (.cells #[.int .i64 k, .int .i64 l, .int .i64 u, .int .i64 p, .slice A3 n3 c3] 32) _ (Nat.lt_of_lt_of_le HLTB.out HB3.out.size)).trans (HB3.out.block w.heap.size HLTB.out))).cells
    clear ho3 hb3
    refine hK.out _ _ ?_ (fun hHeld => ?_)
    · first | exact S0 | exact S3 | exact S4 | exact S5 | exact S6
    clear hK K
    refine wpAnyH_ready (rs := [7, 10]) (by kernel_rfl) (by simp) ?_
    refine AllReadyH.cons rfl (fun K hK => ?_) (AllReadyH.cons rfl (fun K hK => ?_) AllReadyH.nil)
    · go_simp
      refine hK.out _ _ ?_ (fun hHeld => ?_)
      · first | exact S0 | exact S3 | exact S4 | exact S5 | exact S6
      clear hK K
      refine wpAnyH_ready (rs := [10]) (by kernel_rfl) (by simp) ?_
      refine AllReadyH.cons rfl (fun K hK => ?_) AllReadyH.nil
      go_simp
      refine hK.out _ _ ?_ (fun hHeld => ?_)
      · first | exact S0 | exact S3 | exact S4 | exact S5 | exact S6
      clear hK K
      refine wpAnyH_ready (rs := [11]) (by kernel_rfl) (by simp) ?_
      refine AllReadyH.cons rfl (fun K hK => ?_) AllReadyH.nil
      obtain ⟨v4, w4, hrun, hrow4, hg4, hl4⟩ := run_append_off (P := Try.prog) w3 0 47 47 32 5 56 (by omega) (by omega) Try.underlying47 infoJ (P.v c) ((rs c).map Row.cells) ((HR.out.rows c hc4).below HB3.out) [.int .i64 k, .int .i64 l, .int .i64 u, .int .i64 p, .slice A3 n3 c3] rfl (by intro y hy; simp only [List.mem_cons, List.not_mem_nil, or_false] at hy; rcases hy with rfl | rfl | rfl | rfl | rfl <;> rfl) (by rw [List.length_map, HQ.out]; exact hl) (Nat.zero_le _)
      rw [HV.out] at hrun
      obtain ⟨A6, m6, c6, hv4⟩ : ∃ A m c, v4 = .slice A m c := by
        obtain ⟨A, c, h, _⟩ := hrow4.form
        exact ⟨_, _, _, h⟩
      obtain ⟨P', e1, e2, e3⟩ := HR.out.more hc4 HCC.out ⟨⟨k, l, u, p, d⟩, .slice A3 n3 c3⟩ HB3.out rfl HO3.out HI.out (by rw [HD.out]; exact hn) v4 hrow4 hg4 hl4
      have HEND := Lib.hid (And.intro e1 (And.intro e2 ((Turn.of_below P.own HB.out).trans e3)))
      have hB4 : w4.heap[P.g]? = w3.heap[P.g]? := (hg4.block P.g (by have := HGL.out; have := HB3.out.size; simp; omega) (fun e => HR.out.g_v c hc4 e.symm)).trans (Below.heap_alloc w3 _ _ (Nat.lt_of_lt_of_le HGL.out HB3.out.size))
      have gc5 : w4.cell? ⟨P.g, 1 + c, none⟩ = some (.slice Av q kv) := (World.cell?_of_block (a := ⟨P.g, 1 + c, none⟩) hB4).trans gc3
      have fg5 : w4.frozen? ⟨P.g, 1 + c, none⟩ = false := (World.frozen?_of_block (a := ⟨P.g, 1 + c, none⟩) hB4).trans ((HR.out.below HB3.out).free (1 + c))
      have hB5 := (hg4.block w.heap.size (by have := HLTB.out; have := HB3.out.size; simp; omega) (fun e => HBV.out e.symm)).trans ((Below.heap_alloc w3 (.cells #[.int .i64 k, .int .i64 l, .int .i64 u, .int .i64 p, .slice A3 n3 c3] 32) _ (Nat.lt_of_lt_of_le HLTB.out HB3.out.size)).trans (HB3.out.block w.heap.size HLTB.out))
      have S5 := (HBX.out.keep hB5).cells
      have S6 := (HBX.out.keep ((Below.heap_setCell w4 ⟨P.g, 1 + c, none⟩ v4 w.heap.size HBG.out).trans hB5)).cells
      subst hv4
      clear hrow4 hg4 hl4 e1 e2 e3 hB5 hB4
      refine step_append_run (o := ⟨some 22, _, _, _, _, _⟩) (by rfl) (.tmp 18) (.tmp 21) 47 (by rfl) (.slice Av q kv) (.slice (some ⟨w3.heap.size, 0, none⟩) 1 1) _ (by rfl) (by rfl) (fun _ => hrun) ?_
      refine hK.out _ _ ?_ (fun hHeld => ?_)
      · first | exact S0 | exact S3 | exact S4 | exact S5 | exact S6
      clear hK K
      refine Hand.held_take (i := 14) (d := 25) (v := ?_) rfl rfl (by kernel_rfl) (by kernel_rfl) (by kernel_rfl) (by rfl) ?_ (by assumption) (fun _ _ _ h => h) ?_
      rotate_left
      · intro w hSw
        go_simp
        with_reducible rfl
      try simp only [Act.put, List.setIfInBounds_toArray, List.set_cons_zero, List.set_cons_succ]
      refine wpAnyH_ready (rs := [15]) (by kernel_rfl) (by simp) ?_
      refine AllReadyH.cons rfl (fun K hK => ?_) AllReadyH.nil
      go_simp
      refine hK.out _ _ ?_ (fun hHeld => ?_)
      · first | exact S0 | exact S3 | exact S4 | exact S5 | exact S6
      clear hK K
      refine wpAnyH_done (by kernel_rfl) ?_ _
      clear hHeld
      go_wp2
      go_ret
      exact ⟨rfl, P', _, rfl, HEND.out⟩
    · go_simp
      refine hK.out _ _ ?_ (fun hHeld => ?_)
      · first | exact S0 | exact S3 | exact S4 | exact S5 | exact S6
      clear hK K
      refine wpAnyH_ready (rs := [7]) (by kernel_rfl) (by simp) ?_
      refine AllReadyH.cons rfl (fun K hK => ?_) AllReadyH.nil
      go_simp
      refine hK.out _ _ ?_ (fun hHeld => ?_)
      · first | exact S0 | exact S3 | exact S4 | exact S5 | exact S6
      clear hK K
      refine wpAnyH_ready (rs := [11]) (by kernel_rfl) (by simp) ?_
      refine AllReadyH.cons rfl (fun K hK => ?_) AllReadyH.nil
      obtain ⟨v4, w4, hrun, hrow4, hg4, hl4⟩ := run_append_off (P := Try.prog) w3 0 47 47 32 5 56 (by omega) (by omega) Try.underlying47 infoJ (P.v c) ((rs c).map Row.cells) ((HR.out.rows c hc4).below HB3.out) [.int .i64 k, .int .i64 l, .int .i64 u, .int .i64 p, .slice A3 n3 c3] rfl (by intro y hy; simp only [List.mem_cons, List.not_mem_nil, or_false] at hy; rcases hy with rfl | rfl | rfl | rfl | rfl <;> rfl) (by rw [List.length_map, HQ.out]; exact hl) (Nat.zero_le _)
      rw [HV.out] at hrun
      obtain ⟨A6, m6, c6, hv4⟩ : ∃ A m c, v4 = .slice A m c := by
        obtain ⟨A, c, h, _⟩ := hrow4.form
        exact ⟨_, _, _, h⟩
      obtain ⟨P', e1, e2, e3⟩ := HR.out.more hc4 HCC.out ⟨⟨k, l, u, p, d⟩, .slice A3 n3 c3⟩ HB3.out rfl HO3.out HI.out (by rw [HD.out]; exact hn) v4 hrow4 hg4 hl4
      have HEND := Lib.hid (And.intro e1 (And.intro e2 ((Turn.of_below P.own HB.out).trans e3)))
      have hB4 : w4.heap[P.g]? = w3.heap[P.g]? := (hg4.block P.g (by have := HGL.out; have := HB3.out.size; simp; omega) (fun e => HR.out.g_v c hc4 e.symm)).trans (Below.heap_alloc w3 _ _ (Nat.lt_of_lt_of_le HGL.out HB3.out.size))
      have gc5 : w4.cell? ⟨P.g, 1 + c, none⟩ = some (.slice Av q kv) := (World.cell?_of_block (a := ⟨P.g, 1 + c, none⟩) hB4).trans gc3
      have fg5 : w4.frozen? ⟨P.g, 1 + c, none⟩ = false := (World.frozen?_of_block (a := ⟨P.g, 1 + c, none⟩) hB4).trans ((HR.out.below HB3.out).free (1 + c))
      have hB5 := (hg4.block w.heap.size (by have := HLTB.out; have := HB3.out.size; simp; omega) (fun e => HBV.out e.symm)).trans ((Below.heap_alloc w3 (.cells #[.int .i64 k, .int .i64 l, .int .i64 u, .int .i64 p, .slice A3 n3 c3] 32) _ (Nat.lt_of_lt_of_le HLTB.out HB3.out.size)).trans (HB3.out.block w.heap.size HLTB.out))
      have S5 := (HBX.out.keep hB5).cells
      have S6 := (HBX.out.keep ((Below.heap_setCell w4 ⟨P.g, 1 + c, none⟩ v4 w.heap.size HBG.out).trans hB5)).cells
      subst hv4
      clear hrow4 hg4 hl4 e1 e2 e3 hB5 hB4
      refine step_append_run (o := ⟨some 22, _, _, _, _, _⟩) (by rfl) (.tmp 18) (.tmp 21) 47 (by rfl) (.slice Av q kv) (.slice (some ⟨w3.heap.size, 0, none⟩) 1 1) _ (by rfl) (by rfl) (fun _ => hrun) ?_
      refine hK.out _ _ ?_ (fun hHeld => ?_)
      · first | exact S0 | exact S3 | exact S4 | exact S5 | exact S6
      clear hK K
      refine Hand.held_take (i := 14) (d := 25) (v := ?_) rfl rfl (by kernel_rfl) (by kernel_rfl) (by kernel_rfl) (by rfl) ?_ (by assumption) (fun _ _ _ h => h) ?_
      rotate_left
      · intro w hSw
        go_simp
        with_reducible rfl
      try simp only [Act.put, List.setIfInBounds_toArray, List.set_cons_zero, List.set_cons_succ]
      refine wpAnyH_ready (rs := [15]) (by kernel_rfl) (by simp) ?_
      refine AllReadyH.cons rfl (fun K hK => ?_) AllReadyH.nil
      go_simp
      refine hK.out _ _ ?_ (fun hHeld => ?_)
      · first | exact S0 | exact S3 | exact S4 | exact S5 | exact S6
      clear hK K
      refine wpAnyH_done (by kernel_rfl) ?_ _
      clear hHeld
      go_wp2
      go_ret
      exact ⟨rfl, P', _, rfl, HEND.out⟩

end Go.Proofs.Ytkpneckgpolaoaa.QueuePkg
