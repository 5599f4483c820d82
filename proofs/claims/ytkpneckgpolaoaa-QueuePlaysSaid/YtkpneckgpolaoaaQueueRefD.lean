/-
  What the document's queues do: Put.
-/
import Derived.Test.YtkpneckgpolaoaaQueueRefC
namespace Go.Proofs.Ytkpneckgpolaoaa.QueueRef
open Go.RowKit Queue QueuePkg
set_option maxRecDepth 4000

theorem infoL : rowInfo Try.prog 61 7 72 := by
  have h : ((Try.prog.info? 61).bind (·.zero)).map (·.cells.size) = some 7 := by kernel_rfl
  cases hz : ((Try.prog.info? 61).bind (·.zero)) with
  | none => rw [hz] at h; cases h
  | some z =>
    rw [hz] at h
    injection h with h
    exact ⟨_, z, rfl, hz, by kernel_rfl, by kernel_rfl, h⟩

theorem rPut_out {w : World} {P : Pl} {ch : Int} {rs : List Rw} (h : Rs w P ch rs) (c : Int) (hc : ¬ (0 ≤ c ∧ c < ch)) (j : Jb) (A : Option Addr) (n m : Nat) :
    Calls Try.prog 21 #[ptr P.g, .int .i64 c, jobV j (.slice A n m)] w fun e w' => e = .returned (.int .i64 2) ∧ Below w.heap.size w w' := by
  obtain ⟨k, l, u, p, d⟩ := j
  have hb := (Below.refl w.heap.size w).alloc (Nat.le_refl _) (.cells #[.int .i64 k, .int .i64 l, .int .i64 u, .int .i64 p, .slice A n m] 32)
  obtain ⟨g0, _⟩ := (h.below hb).cells
  have HB := Lib.hid hb
  by_cases h0 : c < 0
  · clear h hc hb
    go_enter Try.func21, Try.ntmps21
    go_wp2
    go_ret
    exact ⟨rfl, HB.out⟩
  · have h1 : ch ≤ c := by omega
    clear h hc hb
    go_enter Try.func21, Try.ntmps21
    go_wp2
    go_ret
    exact ⟨rfl, HB.out⟩

set_option maxHeartbeats 4000000 in
theorem rPut_in {w : World} {P : Pl} {ch : Int} {rs : List Rw} (h : Rs w P ch rs) (c : Int) (hc0 : 0 ≤ c) (hc1 : c < ch) (j : Jb) (A : Option Addr) (n m B : Nat) (hn : n ≤ 1000000000) (hr : Nums w B A n j.d) (hB : B ≤ w.heap.size) (hl : rs.length ≤ 1000000000) :
    Calls Try.prog 21 #[ptr P.g, .int .i64 c, jobV j (.slice A n m)] w fun e w' => e = .returned (.int .i64 0) ∧ ∃ (P' : Pl) (r : Rw), r.x = ⟨c, j, false⟩ ∧ P'.g = P.g ∧ Rs w' P' ch (rs ++ [r]) ∧ Turn P.own P'.own w w' := by
  obtain ⟨k, l, u, p, d⟩ := j
  dsimp only at hr
  have hb := (Below.refl w.heap.size w).alloc (Nat.le_refl _) (.cells #[.int .i64 k, .int .i64 l, .int .i64 u, .int .i64 p, .slice A n m] 32)
  obtain ⟨Av, kv, hv, _⟩ := h.slice
  have HV := Lib.hid hv
  obtain ⟨q, hq⟩ : ∃ q, rs.length = q := ⟨_, rfl⟩
  have HQ := Lib.hid hq
  rw [hq] at HV hl
  have HR := Lib.hid (h.below hb)
  have HI := Lib.hid hr.in64
  have HD : Hid (d.length = n) := Lib.hid hr.1
  have HBX := Lib.hid (Five.new w 32 (.int .i64 k) (.int .i64 l) (.int .i64 u) (.int .i64 p) (.slice A n m))
  have HBR := Lib.hid (nums_keep (nums_more hr hB) hb)
  have HB := Lib.hid hb
  have HLT := Lib.hid h.lt
  obtain ⟨g0, _⟩ := (h.below hb).cells
  have g1 : decide (c < 0) = false := by simpa using hc0
  have g2 : decide (ch ≤ c) = false := by simpa using hc1
  clear h hb hr hv hq
  go_enter Try.func21, Try.ntmps21
  go_upto_region 3 with fail
  refine at_wld ?_
  intro Y hY
  rw [← hY] at HR HBX HBR HB
  clear hY g0
  have HLTB := Lib.hid HBX.out.lt
  have HBG : Hid (w.heap.size ≠ P.g) := Lib.hid (fun e => by have := HLT.out P.g (.inl rfl); omega)
  have HBV : Hid (P.v.ownBlock ≠ some w.heap.size) := Lib.hid (fun e => by have := HLT.out _ (.inr (.inl e)); omega)
  obtain ⟨_, gc⟩ := HR.out.cells
  rw [HV.out] at gc
  have fg := HR.out.free 1
  have HC := Lib.hid (Own_any ⟨k, l, u, p, d⟩ A n m w.heap.size Y.drew hn HBR.out HB.out.size)
  have S0 := HBX.out.cells
  have HGL := Lib.hid HR.out.g_lt
  refine wp_region_held_drew (S := fun w' => w'.cell? ⟨w.heap.size, 0, none⟩ = some (.int .i64 k) ∧ w'.cell? ⟨w.heap.size, 1, none⟩ = some (.int .i64 l) ∧ w'.cell? ⟨w.heap.size, 2, none⟩ = some (.int .i64 u) ∧ w'.cell? ⟨w.heap.size, 3, none⟩ = some (.int .i64 p) ∧ w'.cell? ⟨w.heap.size, 4, none⟩ = some (.slice A n m)) (by kernel_rfl) ?_ (fun hHeld => ?_)
  · exact S0
  refine Hand.held_take (i := 0) (d := 17) (v := ?_) rfl rfl (by kernel_rfl) (by kernel_rfl) (by kernel_rfl) (by rfl) ?_ (by assumption) (fun _ _ _ h => h) ?_
  rotate_left
  · intro w hSw
    go_simp
    with_reducible rfl
  try simp only [Act.put, List.setIfInBounds_toArray, List.set_cons_zero, List.set_cons_succ]
  refine Hand.held_take (i := 1) (d := 18) (v := ?_) rfl rfl (by kernel_rfl) (by kernel_rfl) (by kernel_rfl) (by rfl) ?_ (by assumption) (fun _ _ _ h => h) ?_
  rotate_left
  · intro w hSw
    go_simp
    with_reducible rfl
  try simp only [Act.put, List.setIfInBounds_toArray, List.set_cons_zero, List.set_cons_succ]
  refine Hand.held_take (i := 2) (d := 19) (v := ?_) rfl rfl (by kernel_rfl) (by kernel_rfl) (by kernel_rfl) (by rfl) ?_ (by assumption) (fun _ _ _ h => h) ?_
  rotate_left
  · intro w hSw
    go_simp
    with_reducible rfl
  try simp only [Act.put, List.setIfInBounds_toArray, List.set_cons_zero, List.set_cons_succ]
  refine Hand.held_take (i := 3) (d := 20) (v := ?_) rfl rfl (by kernel_rfl) (by kernel_rfl) (by kernel_rfl) (by rfl) ?_ (by assumption) (fun _ _ _ h => h) ?_
  rotate_left
  · intro w hSw
    go_simp
    with_reducible rfl
  try simp only [Act.put, List.setIfInBounds_toArray, List.set_cons_zero, List.set_cons_succ]
  refine Hand.held_take (i := 5) (d := 22) (v := ?_) rfl rfl (by kernel_rfl) (by kernel_rfl) (by kernel_rfl) (by rfl) ?_ (by assumption) (fun _ _ _ h => h) ?_
  rotate_left
  · intro w hSw
    go_simp
    with_reducible rfl
  try simp only [Act.put, List.setIfInBounds_toArray, List.set_cons_zero, List.set_cons_succ]
  refine Hand.held_take (i := 6) (d := 23) (v := ?_) rfl rfl (by kernel_rfl) (by kernel_rfl) (by kernel_rfl) (by rfl) ?_ (by assumption) (fun _ _ _ h => h) ?_
  rotate_left
  · intro w hSw
    go_simp
    with_reducible rfl
  try simp only [Act.put, List.setIfInBounds_toArray, List.set_cons_zero, List.set_cons_succ]
  refine wpAnyH_ready (rs := [4, 7]) (by kernel_rfl) (by simp) ?_
  refine AllReadyH.cons rfl (fun K hK => ?_) (AllReadyH.cons rfl (fun K hK => ?_) AllReadyH.nil)
  · go_simp
    refine hK.out _ _ ?_ (fun hHeld => ?_)
    · first | exact S0 | exact S3 | exact S4 | exact S5 | exact S6
    clear hK K
    refine wpAnyH_ready (rs := [7]) (by kernel_rfl) (by simp) ?_
    refine AllReadyH.cons rfl (fun K hK => ?_) AllReadyH.nil
    go_simp
    go_wp2_with (go_at_call 29; refine HC.out.mono ?_; rintro e w3 ⟨v3, rfl, ho3, hb3⟩)
    obtain ⟨A3, n3, c3, rfl⟩ := ho3.form
    have HB3 : Hid (Below Y.heap.size Y w3) := Lib.hid ⟨hb3.os, hb3.tape, hb3.output, hb3.size, hb3.block⟩
    have HO3 : Hid (OwnI w3 Y.heap.size 3 (.slice A3 n3 c3) d) := Lib.hid ho3
    obtain ⟨_, gc3⟩ := (HR.out.below HB3.out).cells
    rw [HV.out] at gc3
    have gc4 : (w3.alloc (.cells #[.int .i64 c, .int .i64 k, .int .i64 l, .int .i64 u, .int .i64 p, .slice A3 n3 c3, .bool false] 61)).cell? ⟨P.g, 1, none⟩ = some (.slice Av q kv) := (((Below.refl w3.heap.size w3).alloc (Nat.le_refl _) _).cell (p := ⟨P.g, 1, none⟩) (Nat.lt_of_lt_of_le HGL.out HB3.out.size)).trans gc3
    have S3 := (HBX.out.keep (HB3.out.block w.heap.size HLTB.out)).cells
    have S4 := (HBX.out.keep ((Below.heap_alloc w3 (.cells #[.int .i64 c, .int .i64 k, .int .i64 l, .int .i64 u, .int .i64 p, .slice A3 n3 c3, .bool false] 61) _ (Nat.lt_of_lt_of_le HLTB.out HB3.out.size)).trans (HB3.out.block w.heap.size HLTB.out))).cells
    clear ho3 hb3
    refine hK.out _ _ ?_ (fun hHeld => ?_)
    · first | exact S0 | exact S3 | exact S4 | exact S5 | exact S6
    clear hK K
    refine Hand.held_take (i := 8) (d := 25) (v := ?_) rfl rfl (by kernel_rfl) (by kernel_rfl) (by kernel_rfl) (by rfl) ?_ (by assumption) (fun _ _ _ h => h) ?_
    rotate_left
    · intro w hSw
      go_simp
      with_reducible rfl
    try simp only [Act.put, List.setIfInBounds_toArray, List.set_cons_zero, List.set_cons_succ]
    refine wpAnyH_ready (rs := [9]) (by kernel_rfl) (by simp) ?_
    refine AllReadyH.cons rfl (fun K hK => ?_) AllReadyH.nil
    go_simp
    refine hK.out _ _ ?_ (fun hHeld => ?_)
    · first | exact S0 | exact S3 | exact S4 | exact S5 | exact S6
    clear hK K
    refine wpAnyH_ready (rs := [10]) (by kernel_rfl) (by simp) ?_
    refine AllReadyH.cons rfl (fun K hK => ?_) AllReadyH.nil
    obtain ⟨v4, w4, hrun, hrow4, hg4, hl4⟩ := run_append_row (P := Try.prog) w3 0 51 51 61 7 72 (by omega) (by omega) Try.underlying51 infoL P.v (rs.map Rw.cells) (HR.out.rows.below HB3.out) [.int .i64 c, .int .i64 k, .int .i64 l, .int .i64 u, .int .i64 p, .slice A3 n3 c3, .bool false] rfl (by intro y hy; simp only [List.mem_cons, List.not_mem_nil, or_false] at hy; rcases hy with rfl | rfl | rfl | rfl | rfl | rfl | rfl <;> rfl) (by rw [List.length_map, HQ.out]; exact hl) (Nat.zero_le _)
    rw [HV.out] at hrun
    obtain ⟨A6, m6, c6, hv4⟩ : ∃ A m c, v4 = .slice A m c := by
      obtain ⟨A, c, h, _⟩ := hrow4.form
      exact ⟨_, _, _, h⟩
    obtain ⟨P', e1, e2, e3⟩ := HR.out.more ⟨⟨c, ⟨k, l, u, p, d⟩, false⟩, .slice A3 n3 c3⟩ HB3.out rfl HO3.out HI.out (by rw [HD.out]; exact hn) v4 hrow4 hg4 hl4
    have HEND := Lib.hid (And.intro e1 (And.intro e2 ((Turn.of_below P.own HB.out).trans e3)))
    have hB4 : w4.heap[P.g]? = w3.heap[P.g]? := (hg4.block P.g (by have := HGL.out; have := HB3.out.size; simp; omega) (fun e => HR.out.g_v e.symm)).trans (Below.heap_alloc w3 _ _ (Nat.lt_of_lt_of_le HGL.out HB3.out.size))
    have gc5 : w4.cell? ⟨P.g, 1, none⟩ = some (.slice Av q kv) := (World.cell?_of_block (a := ⟨P.g, 1, none⟩) hB4).trans gc3
    have fg5 : w4.frozen? ⟨P.g, 1, none⟩ = false := (World.frozen?_of_block (a := ⟨P.g, 1, none⟩) hB4).trans ((HR.out.below HB3.out).free 1)
    have hB5 := (hg4.block w.heap.size (by have := HLTB.out; have := HB3.out.size; simp; omega) (fun e => HBV.out e.symm)).trans ((Below.heap_alloc w3 (.cells #[.int .i64 c, .int .i64 k, .int .i64 l, .int .i64 u, .int .i64 p, .slice A3 n3 c3, .bool false] 61) _ (Nat.lt_of_lt_of_le HLTB.out HB3.out.size)).trans (HB3.out.block w.heap.size HLTB.out))
    have S5 := (HBX.out.keep hB5).cells
    have S6 := (HBX.out.keep ((Below.heap_setCell w4 ⟨P.g, 1, none⟩ v4 w.heap.size HBG.out).trans hB5)).cells
    subst hv4
    clear hrow4 hg4 hl4 e1 e2 e3 hB5 hB4
    refine step_append_run (o := ⟨some 27, _, _, _, _, _⟩) (by rfl) (.tmp 21) (.tmp 26) 51 (by rfl) (.slice Av q kv) (.slice (some ⟨w3.heap.size, 0, none⟩) 1 1) _ (by rfl) (by rfl) (fun _ => hrun) ?_
    refine hK.out _ _ ?_ (fun hHeld => ?_)
    · first | exact S0 | exact S3 | exact S4 | exact S5 | exact S6
    clear hK K
    refine Hand.held_take (i := 11) (d := 28) (v := ?_) rfl rfl (by kernel_rfl) (by kernel_rfl) (by kernel_rfl) (by rfl) ?_ (by assumption) (fun _ _ _ h => h) ?_
    rotate_left
    · intro w hSw
      go_simp
      with_reducible rfl
    try simp only [Act.put, List.setIfInBounds_toArray, List.set_cons_zero, List.set_cons_succ]
    refine Hand.held_take (i := 12) (d := 29) (v := ?_) rfl rfl (by kernel_rfl) (by kernel_rfl) (by kernel_rfl) (by rfl) ?_ (by assumption) (fun _ _ _ h => h) ?_
    rotate_left
    · intro w hSw
      go_simp
      with_reducible rfl
    try simp only [Act.put, List.setIfInBounds_toArray, List.set_cons_zero, List.set_cons_succ]
    refine wpAnyH_ready (rs := [13]) (by kernel_rfl) (by simp) ?_
    refine AllReadyH.cons rfl (fun K hK => ?_) AllReadyH.nil
    go_simp
    refine hK.out _ _ ?_ (fun hHeld => ?_)
    · first | exact S0 | exact S3 | exact S4 | exact S5 | exact S6
    clear hK K
    refine wpAnyH_done (by kernel_rfl) ?_ _
    clear hHeld
    go_wp2
    go_ret
    exact ⟨rfl, P', _, rfl, HEND.out⟩
  · go_simp
    go_wp2_with (go_at_call 29; refine HC.out.mono ?_; rintro e w3 ⟨v3, rfl, ho3, hb3⟩)
    obtain ⟨A3, n3, c3, rfl⟩ := ho3.form
    have HB3 : Hid (Below Y.heap.size Y w3) := Lib.hid ⟨hb3.os, hb3.tape, hb3.output, hb3.size, hb3.block⟩
    have HO3 : Hid (OwnI w3 Y.heap.size 3 (.slice A3 n3 c3) d) := Lib.hid ho3
    obtain ⟨_, gc3⟩ := (HR.out.below HB3.out).cells
    rw [HV.out] at gc3
    have gc4 : (w3.alloc (.cells #[.int .i64 c, .int .i64 k, .int .i64 l, .int .i64 u, .int .i64 p, .slice A3 n3 c3, .bool false] 61)).cell? ⟨P.g, 1, none⟩ = some (.slice Av q kv) := (((Below.refl w3.heap.size w3).alloc (Nat.le_refl _) _).cell (p := ⟨P.g, 1, none⟩) (Nat.lt_of_lt_of_le HGL.out HB3.out.size)).trans gc3
    have S3 := (HBX.out.keep (HB3.out.block w.heap.size HLTB.out)).cells
    have S4 := (HBX.out.keep ((Below.heap_alloc w3 (.cells #[.int .i64 c, .int .i64 k, .int .i64 l, .int .i64 u, .int .i64 p, .slice A3 n3 c3, .bool false] 61) _ (Nat.lt_of_lt_of_le HLTB.out HB3.out.size)).trans (HB3.out.block w.heap.size HLTB.out))).cells
    clear ho3 hb3
    refine hK.out _ _ ?_ (fun hHeld => ?_)
    · first | exact S0 | exact S3 | exact S4 | exact S5 | exact S6
    clear hK K
    refine Hand.held_take (i := 8) (d := 25) (v := ?_) rfl rfl (by kernel_rfl) (by kernel_rfl) (by kernel_rfl) (by rfl) ?_ (by assumption) (fun _ _ _ h => h) ?_
    rotate_left
    · intro w hSw
      go_simp
      with_reducible rfl
    try simp only [Act.put, List.setIfInBounds_toArray, List.set_cons_zero, List.set_cons_succ]
    refine wpAnyH_ready (rs := [4, 9]) (by kernel_rfl) (by simp) ?_
    refine AllReadyH.cons rfl (fun K hK => ?_) (AllReadyH.cons rfl (fun K hK => ?_) AllReadyH.nil)
    · go_simp
      refine hK.out _ _ ?_ (fun hHeld => ?_)
      · first | exact S0 | exact S3 | exact S4 | exact S5 | exact S6
      clear hK K
      refine wpAnyH_ready (rs := [9]) (by kernel_rfl) (by simp) ?_
      refine AllReadyH.cons rfl (fun K hK => ?_) AllReadyH.nil
      go_simp
      refine hK.out _ _ ?_ (fun hHeld => ?_)
      · first | exact S0 | exact S3 | exact S4 | exact S5 | exact S6
      clear hK K
      refine wpAnyH_ready (rs := [10]) (by kernel_rfl) (by simp) ?_
      refine AllReadyH.cons rfl (fun K hK => ?_) AllReadyH.nil
      obtain ⟨v4, w4, hrun, hrow4, hg4, hl4⟩ := run_append_row (P := Try.prog) w3 0 51 51 61 7 72 (by omega) (by omega) Try.underlying51 infoL P.v (rs.map Rw.cells) (HR.out.rows.below HB3.out) [.int .i64 c, .int .i64 k, .int .i64 l, .int .i64 u, .int .i64 p, .slice A3 n3 c3, .bool false] rfl (by intro y hy; simp only [List.mem_cons, List.not_mem_nil, or_false] at hy; rcases hy with rfl | rfl | rfl | rfl | rfl | rfl | rfl <;> rfl) (by rw [List.length_map, HQ.out]; exact hl) (Nat.zero_le _)
      rw [HV.out] at hrun
      obtain ⟨A6, m6, c6, hv4⟩ : ∃ A m c, v4 = .slice A m c := by
        obtain ⟨A, c, h, _⟩ := hrow4.form
        exact ⟨_, _, _, h⟩
      obtain ⟨P', e1, e2, e3⟩ := HR.out.more ⟨⟨c, ⟨k, l, u, p, d⟩, false⟩, .slice A3 n3 c3⟩ HB3.out rfl HO3.out HI.out (by rw [HD.out]; exact hn) v4 hrow4 hg4 hl4
      have HEND := Lib.hid (And.intro e1 (And.intro e2 ((Turn.of_below P.own HB.out).trans e3)))
      have hB4 : w4.heap[P.g]? = w3.heap[P.g]? := (hg4.block P.g (by have := HGL.out; have := HB3.out.size; simp; omega) (fun e => HR.out.g_v e.symm)).trans (Below.heap_alloc w3 _ _ (Nat.lt_of_lt_of_le HGL.out HB3.out.size))
      have gc5 : w4.cell? ⟨P.g, 1, none⟩ = some (.slice Av q kv) := (World.cell?_of_block (a := ⟨P.g, 1, none⟩) hB4).trans gc3
      have fg5 : w4.frozen? ⟨P.g, 1, none⟩ = false := (World.frozen?_of_block (a := ⟨P.g, 1, none⟩) hB4).trans ((HR.out.below HB3.out).free 1)
      have hB5 := (hg4.block w.heap.size (by have := HLTB.out; have := HB3.out.size; simp; omega) (fun e => HBV.out e.symm)).trans ((Below.heap_alloc w3 (.cells #[.int .i64 c, .int .i64 k, .int .i64 l, .int .i64 u, .int .i64 p, .slice A3 n3 c3, .bool false] 61) _ (Nat.lt_of_lt_of_le HLTB.out HB3.out.size)).trans (HB3.out.block w.heap.size HLTB.out))
      have S5 := (HBX.out.keep hB5).cells
      have S6 := (HBX.out.keep ((Below.heap_setCell w4 ⟨P.g, 1, none⟩ v4 w.heap.size HBG.out).trans hB5)).cells
      subst hv4
      clear hrow4 hg4 hl4 e1 e2 e3 hB5 hB4
      refine step_append_run (o := ⟨some 27, _, _, _, _, _⟩) (by rfl) (.tmp 21) (.tmp 26) 51 (by rfl) (.slice Av q kv) (.slice (some ⟨w3.heap.size, 0, none⟩) 1 1) _ (by rfl) (by rfl) (fun _ => hrun) ?_
      refine hK.out _ _ ?_ (fun hHeld => ?_)
      · first | exact S0 | exact S3 | exact S4 | exact S5 | exact S6
      clear hK K
      refine Hand.held_take (i := 11) (d := 28) (v := ?_) rfl rfl (by kernel_rfl) (by kernel_rfl) (by kernel_rfl) (by rfl) ?_ (by assumption) (fun _ _ _ h => h) ?_
      rotate_left
      · intro w hSw
        go_simp
        with_reducible rfl
      try simp only [Act.put, List.setIfInBounds_toArray, List.set_cons_zero, List.set_cons_succ]
      refine Hand.held_take (i := 12) (d := 29) (v := ?_) rfl rfl (by kernel_rfl) (by kernel_rfl) (by kernel_rfl) (by rfl) ?_ (by assumption) (fun _ _ _ h => h) ?_
      rotate_left
      · intro w hSw
        go_simp
        with_reducible rfl
      try simp only [Act.put, List.setIfInBounds_toArray, List.set_cons_zero, List.set_cons_succ]
      refine wpAnyH_ready (rs := [13]) (by kernel_rfl) (by simp) ?_
      refine AllReadyH.cons rfl (fun K hK => ?_) AllReadyH.nil
      go_simp
      refine hK.out _ _ ?_ (fun hHeld => ?_)
      · first | exact S0 | exact S3 | exact S4 | exact S5 | exact S6
      clear hK K
      refine wpAnyH_done (by kernel_rfl) ?_ _
      clear hHeld
      go_wp2
      go_ret
      exact ⟨rfl, P', _, rfl, HEND.out⟩
    · go_simp
      refine hK.out _ _ ?_ (fun hHeld => ?_)
      · first | exact S0 | exact S3 | exact S4 | exact S5 | exact S6
      clear hK K
      refine wpAnyH_ready (rs := [4]) (by kernel_rfl) (by simp) ?_
      refine AllReadyH.cons rfl (fun K hK => ?_) AllReadyH.nil
      go_simp
      refine hK.out _ _ ?_ (fun hHeld => ?_)
      · first | exact S0 | exact S3 | exact S4 | exact S5 | exact S6
      clear hK K
      refine wpAnyH_ready (rs := [10]) (by kernel_rfl) (by simp) ?_
      refine AllReadyH.cons rfl (fun K hK => ?_) AllReadyH.nil
      obtain ⟨v4, w4, hrun, hrow4, hg4, hl4⟩ := run_append_row (P := Try.prog) w3 0 51 51 61 7 72 (by omega) (by omega) Try.underlying51 infoL P.v (rs.map Rw.cells) (HR.out.rows.below HB3.out) [.int .i64 c, .int .i64 k, .int .i64 l, .int .i64 u, .int .i64 p, .slice A3 n3 c3, .bool false] rfl (by intro y hy; simp only [List.mem_cons, List.not_mem_nil, or_false] at hy; rcases hy with rfl | rfl | rfl | rfl | rfl | rfl | rfl <;> rfl) (by rw [List.length_map, HQ.out]; exact hl) (Nat.zero_le _)
      rw [HV.out] at hrun
      obtain ⟨A6, m6, c6, hv4⟩ : ∃ A m c, v4 = .slice A m c := by
        obtain ⟨A, c, h, _⟩ := hrow4.form
        exact ⟨_, _, _, h⟩
      obtain ⟨P', e1, e2, e3⟩ := HR.out.more ⟨⟨c, ⟨k, l, u, p, d⟩, false⟩, .slice A3 n3 c3⟩ HB3.out rfl HO3.out HI.out (by rw [HD.out]; exact hn) v4 hrow4 hg4 hl4
      have HEND := Lib.hid (And.intro e1 (And.intro e2 ((Turn.of_below P.own HB.out).trans e3)))
      have hB4 : w4.heap[P.g]? = w3.heap[P.g]? := (hg4.block P.g (by have := HGL.out; have := HB3.out.size; simp; omega) (fun e => HR.out.g_v e.symm)).trans (Below.heap_alloc w3 _ _ (Nat.lt_of_lt_of_le HGL.out HB3.out.size))
      have gc5 : w4.cell? ⟨P.g, 1, none⟩ = some (.slice Av q kv) := (World.cell?_of_block (a := ⟨P.g, 1, none⟩) hB4).trans gc3
      have fg5 : w4.frozen? ⟨P.g, 1, none⟩ = false := (World.frozen?_of_block (a := ⟨P.g, 1, none⟩) hB4).trans ((HR.out.below HB3.out).free 1)
      have hB5 := (hg4.block w.heap.size (by have := HLTB.out; have := HB3.out.size; simp; omega) (fun e => HBV.out e.symm)).trans ((Below.heap_alloc w3 (.cells #[.int .i64 c, .int .i64 k, .int .i64 l, .int .i64 u, .int .i64 p, .slice A3 n3 c3, .bool false] 61) _ (Nat.lt_of_lt_of_le HLTB.out HB3.out.size)).trans (HB3.out.block w.heap.size HLTB.out))
      have S5 := (HBX.out.keep hB5).cells
      have S6 := (HBX.out.keep ((Below.heap_setCell w4 ⟨P.g, 1, none⟩ v4 w.heap.size HBG.out).trans hB5)).cells
      subst hv4
      clear hrow4 hg4 hl4 e1 e2 e3 hB5 hB4
      refine step_append_run (o := ⟨some 27, _, _, _, _, _⟩) (by rfl) (.tmp 21) (.tmp 26) 51 (by rfl) (.slice Av q kv) (.slice (some ⟨w3.heap.size, 0, none⟩) 1 1) _ (by rfl) (by rfl) (fun _ => hrun) ?_
      refine hK.out _ _ ?_ (fun hHeld => ?_)
      · first | exact S0 | exact S3 | exact S4 | exact S5 | exact S6
      clear hK K
      refine Hand.held_take (i := 11) (d := 28) (v := ?_) rfl rfl (by kernel_rfl) (by kernel_rfl) (by kernel_rfl) (by rfl) ?_ (by assumption) (fun _ _ _ h => h) ?_
      rotate_left
      · intro w hSw
        go_simp
        with_reducible rfl
      try simp only [Act.put, List.setIfInBounds_toArray, List.set_cons_zero, List.set_cons_succ]
      refine Hand.held_take (i := 12) (d := 29) (v := ?_) rfl rfl (by kernel_rfl) (by kernel_rfl) (by kernel_rfl) (by rfl) ?_ (by assumption) (fun _ _ _ h => h) ?_
      rotate_left
      · intro w hSw
        go_simp
        with_reducible rfl
      try simp only [Act.put, List.setIfInBounds_toArray, List.set_cons_zero, List.set_cons_succ]
      refine wpAnyH_ready (rs := [13]) (by kernel_rfl) (by simp) ?_
      refine AllReadyH.cons rfl (fun K hK => ?_) AllReadyH.nil
      go_simp
      refine hK.out _ _ ?_ (fun hHeld => ?_)
      · first | exact S0 | exact S3 | exact S4 | exact S5 | exact S6
      clear hK K
      refine wpAnyH_done (by kernel_rfl) ?_ _
      clear hHeld
      go_wp2
      go_ret
      exact ⟨rfl, P', _, rfl, HEND.out⟩

/-! ### Told by what was put -/

theorem rPut_r {w : World} {P : Pl} {ch : Int} {l : List Ld} (h : R w P ch l) (c : Int) (j : Jb) (A : Option Addr) (n m B : Nat) (hn : n ≤ 1000000000) (hr : Nums w B A n j.d) (hB : B ≤ w.heap.size) (hl : l.length ≤ 1000000000) :
    Calls Try.prog 21 #[ptr P.g, .int .i64 c, jobV j (.slice A n m)] w fun e w' => e = .returned (.int .i64 (putE ch c)) ∧ ∃ P' : Pl, P'.g = P.g ∧ R w' P' ch (if 0 ≤ c ∧ c < ch then l ++ [⟨c, j, false⟩] else l) ∧ Turn P.own P'.own w w' := by
  obtain ⟨rs, h1, rfl⟩ := h
  rw [List.length_map] at hl
  by_cases hc : 0 ≤ c ∧ c < ch
  · rw [putE, if_pos hc, if_pos hc]
    refine (rPut_in h1 c hc.1 hc.2 j A n m B hn hr hB hl).mono ?_
    rintro e w' ⟨rfl, P', r, hx, hg, hq, ht⟩
    exact ⟨rfl, P', hg, ⟨_, hq, by rw [List.map_append, ← hx]; rfl⟩, ht⟩
  · rw [putE, if_neg hc, if_neg hc]
    refine (rPut_out h1 c hc j A n m).mono ?_
    rintro e w' ⟨rfl, hb⟩
    exact ⟨rfl, P, rfl, ⟨rs, h1.below hb, rfl⟩, Turn.of_below _ hb⟩

theorem found_ex (l : List Ld) (c : Int) : (∀ x ∈ l, here c x = false) ∨ ∃ (i : Nat) (x : Ld), Fst l c i x := by
  induction l with
  | nil => exact .inl fun x hx => by simp at hx
  | cons y l ih =>
    by_cases hy : here c y = true
    · exact .inr ⟨0, y, rfl, hy, fun k hk => absurd hk (by omega)⟩
    · have hy : here c y = false := by simpa using hy
      rcases ih with h | ⟨i, x, h⟩
      · refine .inl fun x hx => ?_
        rcases List.mem_cons.1 hx with rfl | hx
        · exact hy
        · exact h x hx
      · refine .inr ⟨i + 1, x, by simpa using h.at_, h.is, fun k hk z hz => ?_⟩
        rcases k with _ | k
        · simp at hz
          rw [← hz]
          exact hy
        · exact h.no k (by omega) z (by simpa using hz)

theorem map_off (rs : List Rw) (i : Nat) : (rs.modify i Rw.off).map Rw.x = (rs.map Rw.x).modify i Ld.off := by
  apply List.ext_getElem?
  intro j
  rw [List.getElem?_modify, List.getElem?_map, List.getElem?_map, List.getElem?_modify]
  cases rs[j]? with
  | none => rfl
  | some r =>
    by_cases hij : i = j
    · simp [hij, Rw.off]
    · simp [hij]

theorem rFirst_r {w : World} {P : Pl} {ch : Int} {l : List Ld} (h : R w P ch l) (c : Int) (hl : l.length ≤ 1000000000) :
    Calls Try.prog 23 #[ptr P.g, .int .i64 c] w fun e w' => ∃ v, e = .returned (.tuple #[jobV (head (of l c)) v, .bool (!(of l c).isEmpty)]) ∧ OwnI w' w.heap.size 3 v (head (of l c)).d ∧ Below w.heap.size w w' := by
  obtain ⟨rs, h1, rfl⟩ := h
  rw [List.length_map] at hl
  rcases found_ex (rs.map Rw.x) c with hn | ⟨i, x, hf⟩
  · rw [of_none hn]
    refine (rFirst_none h1 c hl hn).mono ?_
    rintro e w' ⟨rfl, hb⟩
    exact ⟨_, rfl, ownI_nil _ _ _, hb⟩
  · rw [hf.head]
    exact rFirst_some h1 c hl i x hf

/-- What is left behind a Pop. -/
def Left (l l' : List Ld) (c : Int) : Prop := of l' c = (of l c).drop 1 ∧ (∀ d, d ≠ c → of l' d = of l d) ∧ l'.length = l.length ∧ ∀ (B : Int), (∀ x ∈ l, 0 ≤ x.c ∧ x.c < B) → ∀ x ∈ l', 0 ≤ x.c ∧ x.c < B

theorem left_none {l : List Ld} {c : Int} (h : ∀ x ∈ l, here c x = false) : Left l l c := ⟨by rw [of_none h]; rfl, fun _ _ => rfl, rfl, fun _ h => h⟩

theorem left_some {l : List Ld} {c : Int} {i : Nat} {x : Ld} (h : Fst l c i x) : Left l (l.modify i Ld.off) c := by
  refine ⟨h.off.1, h.off.2, List.length_modify .., fun B hB y hy => ?_⟩
  obtain ⟨k, hk⟩ := List.getElem?_of_mem hy
  rw [List.getElem?_modify] at hk
  cases hz : l[k]? with
  | none => rw [hz] at hk; cases hk
  | some z =>
    rw [hz] at hk
    have := hB z (List.mem_of_getElem? hz)
    injection hk with hk
    split at hk
    · rw [← hk]
      exact this
    · rw [← hk]
      exact this

theorem rPop_r {w : World} {P : Pl} {ch : Int} {l : List Ld} (h : R w P ch l) (c : Int) (hl : l.length ≤ 1000000000) :
    Calls Try.prog 22 #[ptr P.g, .int .i64 c] w fun e w' => ∃ v l', e = .returned (.tuple #[jobV (head (of l c)) v, .bool (!(of l c).isEmpty)]) ∧ OwnI w' w.heap.size 3 v (head (of l c)).d ∧ R w' P ch l' ∧ Left l l' c ∧ Turn P.own P.own w w' := by
  obtain ⟨rs, h1, rfl⟩ := h
  rw [List.length_map] at hl
  rcases found_ex (rs.map Rw.x) c with hn | ⟨i, x, hf⟩
  · rw [of_none hn]
    refine (rPop_none h1 c hl hn).mono ?_
    rintro e w' ⟨rfl, hb⟩
    exact ⟨_, _, rfl, ownI_nil _ _ _, ⟨rs, h1.below hb, rfl⟩, left_none hn, Turn.of_below _ hb⟩
  · rw [hf.head]
    refine (rPop_some h1 c hl i x hf).mono ?_
    rintro e w' ⟨v, rfl, ho, hr, ht⟩
    exact ⟨v, _, rfl, ho, ⟨_, hr, map_off rs i⟩, left_some hf, ht⟩

theorem rLen_r {w : World} {P : Pl} {ch : Int} {l : List Ld} (h : R w P ch l) (c : Int) (hl : l.length ≤ 1000000000) :
    Calls Try.prog 24 #[ptr P.g, .int .i64 c] w fun e w' => e = .returned (.int .i64 (of l c).length) ∧ w' = w := by
  obtain ⟨rs, h1, rfl⟩ := h
  rw [List.length_map] at hl
  exact rLen_any h1 c hl

theorem rBusy_r {w : World} {P : Pl} {ch : Int} {l : List Ld} (h : R w P ch l) (z : Int) (hl : l.length ≤ 1000000000) :
    Calls Try.prog 25 #[ptr P.g, .int .i64 z] w fun e w' => e = .returned (.int .i64 (many l z : Nat)) ∧ w' = w := by
  obtain ⟨rs, h1, rfl⟩ := h
  rw [List.length_map] at hl
  exact rBusy_any h1 z hl

end Go.Proofs.Ytkpneckgpolaoaa.QueueRef
