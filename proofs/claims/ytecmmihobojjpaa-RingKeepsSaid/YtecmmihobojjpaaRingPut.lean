/-
  What package ring's Put and Get do, over the slots in memory.
-/
import Derived.Test.YtecmmihobojjpaaRingTake
import Derived.Test.YtecmmihobojjpaaHeld
namespace Go.Proofs.Ytecmmihobojjpaa.RingPkg
open Go.RowKit Ring
set_option maxRecDepth 4000

theorem Put_full {w : World} {P : Pl} {size t : Int} {rs : List Row} (h : Rng w P size t rs) (h0 : 0 ≤ size) (h1 : size ≤ 1000000000000) (hl : rs.length ≤ 1000000000000) (hf : size = rs.length) (s : Slot) (v : Value) (hv : ∃ A n c, v = .slice A n c) :
    Calls Try.prog 22 #[ptr P.g, slotV s v] w fun e w' => e = .returned (.tuple #[.int .i64 0, .int .i64 11]) ∧ Below w.heap.size w w' := by
  obtain ⟨A, n, c, rfl⟩ := hv
  obtain ⟨k, l, st, d, f⟩ := s
  have hb := (Below.refl w.heap.size w).alloc (Nat.le_refl _) (.cells #[.int .i64 k, .int .i64 l, .int .i64 st, .slice A n c, .int .i64 f] 35)
  have hF := Free_any (h.below hb) h0 h1 hl
  rw [show size - (rs.length : Int) = 0 by omega] at hF
  have HF := Lib.hid hF
  have HB := Lib.hid hb
  clear h hb hF hf
  go_enter Try.func22, Try.ntmps22
  go_wp2_with fail
  refine HF.out.mono ?_
  rintro e w2 ⟨rfl, j, hw⟩
  replace HB : Hid (Below w.heap.size w w2) := Lib.hid (by rw [hw]; exact below_draws HB.out j)
  clear hw
  go_wp2
  go_ret2
  exact ⟨rfl, HB.out⟩

/-- A slot more. -/
theorem Rng.more {w w3 w4 : World} {P : Pl} {size t : Int} {rs : List Row} (h : Rng w P size t rs) (r : Row) {base : Nat} (hb3 : Below w.heap.size w w3) (hbase : base = w.heap.size) (ho : Own w3 base 5 r.v r.s.d) (hd : r.s.d.length ≤ 100000000000000) (v' : Value) (hrow : OwnR w4 0 66 6 v' (rs.map Row.cells ++ [r.cells])) (hg : (w3.alloc (.cells r.cells.toArray 66)).grownBy w4 P.v.ownBlock) (hl : ∀ b, v'.ownBlock = some b → P.v.ownBlock = some b ∨ w3.heap.size < b) :
    ∃ P' : Pl, P'.g = P.g ∧ Rng (w4.setCell ⟨P.g, 2, none⟩ v') P' size t (rs ++ [r]) ∧ Turn P.own P'.own w (w4.setCell ⟨P.g, 2, none⟩ v') := by
  subst hbase
  have hsz3 : w.heap.size ≤ w3.heap.size := hb3.size
  have hsz4 : w3.heap.size + 1 ≤ w4.heap.size := by have := hg.size; simpa using this
  have hk4 : ∀ b, b < w3.heap.size → P.v.ownBlock ≠ some b → w4.heap[b]? = w3.heap[b]? := fun b hb hn => by
    rw [hg.block b (by simp; omega) (fun e => hn e.symm), Below.heap_alloc w3 _ b hb]
  have gs := grown_setCell w4 ⟨P.g, 2, none⟩ v'
  have hks : ∀ b, b ≠ P.g → (w4.setCell ⟨P.g, 2, none⟩ v').heap[b]? = w4.heap[b]? := fun b hn => Below.heap_setCell _ _ _ _ hn
  have hgl := h.g_lt
  have hh : w4.heap[P.g]? = some (.cells #[.int .i64 size, .int .i64 t, P.v] 58 (0, 0)) := by
    rw [hk4 P.g (by omega) h.g_v, hb3.block P.g hgl]
    exact h.head
  have hog : ∀ b, v'.ownBlock = some b → b ≠ P.g := fun b hb e => (hl b hb).elim (fun h1 => h.g_v (by rw [h1, e])) (fun h1 => by omega)
  obtain ⟨A, c, e1, e2, e3, e4⟩ := Lie.of_own ho
  have hdl : ∀ b, w.heap.size ≤ b ∧ b < w3.heap.size → P.v.ownBlock ≠ some b := fun b hb e => by have := h.rows.lt b e; omega
  refine ⟨{ P with v := v', D := fun b => P.D b ∨ (w.heap.size ≤ b ∧ b < w3.heap.size) }, rfl, ⟨?_, ?_, ?_, ?_, ?_, ?_, ?_⟩, ?_⟩
  · simp [World.setCell, Array.getElem?_modify, hh]
  · rw [List.map_append]
    exact hrow.keep fun b hb => hks b (hog b hb)
  · intro q hq
    rcases List.mem_append.1 hq with hq | hq
    · refine (h.data q hq).keep (fun b hb => .inl hb) (fun b hb => ?_)
      have hbl := h.d_lt b hb
      rw [hks b (fun e => h.g_d (by rw [← e]; exact hb)), hk4 b (by omega) (fun e => h.v_d b e hb), hb3.block b hbl]
    · rw [List.mem_singleton.1 hq]
      refine ⟨A, c, e1, e2, e3, hd, e4.keep (fun b hb => .inr hb) (fun b hb => ?_)⟩
      rw [hks b (by omega), hk4 b hb.2 (hdl b hb)]
  · exact fun e => hog P.g e rfl
  · rintro (e | e)
    · exact h.g_d e
    · exact absurd (show w.heap.size ≤ P.g from e.1) (by have := h.g_lt; omega)
  · rintro b hb (hbd | hbd)
    · rcases hl b hb with h1 | h1
      · exact h.v_d b h1 hbd
      · have := h.d_lt b hbd
        omega
    · rcases hl b hb with h1 | h1
      · exact hdl b hbd h1
      · omega
  · rintro b (hb | hb)
    · have := h.d_lt b hb
      simp
      omega
    · simp
      omega
  · refine ⟨hg.os.trans hb3.os, hg.tape.trans hb3.tape, hg.output.trans hb3.output, by simp; omega, fun b hb hn => ?_, ?_⟩
    · rw [hks b (fun e => hn (.inl e)), hk4 b (by omega) (fun e => hn (.inr (.inl e))), hb3.block b hb]
    · rintro b (hb | hb | hb | hb)
      · exact .inl (.inl hb)
      · rcases hl b hb with h1 | h1
        · exact .inl (.inr (.inl h1))
        · exact .inr (by omega)
      · exact .inl (.inr (.inr hb))
      · exact .inr hb.1

theorem five_cells_keep {w w' : World} {g : Nat} {t : TypeId} {x0 x1 x2 x3 x4 : Value} (h : Five w g t x0 x1 x2 x3 x4) (hb : Below (g + 1) w w') : w'.cell? ⟨g, 0, none⟩ = some x0 ∧ w'.cell? ⟨g, 1, none⟩ = some x1 ∧ w'.cell? ⟨g, 2, none⟩ = some x2 ∧ w'.cell? ⟨g, 3, none⟩ = some x3 ∧ w'.cell? ⟨g, 4, none⟩ = some x4 :=
  (h.keep (hb.block g (Nat.lt_succ_self _))).cells

set_option maxHeartbeats 4000000 in
theorem Put_ok {w : World} {P : Pl} {size t : Int} {rs : List Row} (h : Rng w P size t rs) (h0 : 0 ≤ size) (h1 : size ≤ 1000000) (ht0 : 0 ≤ t) (ht1 : t + rs.length ≤ 1000000000000) (hl : rs.length ≤ 1000000) (hf : ¬ size = rs.length) (s : Slot) (A : Option Addr) (n c : Nat) (hn : n ≤ 100000000000000) (hr : Bytes w w.heap.size A n s.d) :
    Calls Try.prog 22 #[ptr P.g, slotV s (.slice A n c)] w fun e w' => e = .returned (.tuple #[.int .i64 (t + rs.length), .int .i64 0]) ∧ ∃ P' v', P'.g = P.g ∧ Rng w' P' size t (rs ++ [⟨s, 0, v'⟩]) ∧ Turn P.own P'.own w w' := by
  obtain ⟨k, l, st, d, f⟩ := s
  have hb := (Below.refl w.heap.size w).alloc (Nat.le_refl _) (.cells #[.int .i64 k, .int .i64 l, .int .i64 st, .slice A n c, .int .i64 f] 35)
  have HD : Hid (d.length = n) := Lib.hid hr.1
  have HBX := Lib.hid (Five.new w 35 (.int .i64 k) (.int .i64 l) (.int .i64 st) (.slice A n c) (.int .i64 f))
  have HF := Lib.hid (Free_any (h.below hb) h0 (by omega) (by omega))
  have HR := Lib.hid (h.below hb)
  have HB := Lib.hid hb
  have HLT := Lib.hid h.lt
  have HBR := Lib.hid (bytes_keep hr hb)
  have hne : ¬ size - (rs.length : Int) = 0 := by omega
  obtain ⟨Av, cv, hv, _⟩ := h.slice
  have HV := Lib.hid hv
  have hml := hl
  obtain ⟨m, hm⟩ : ∃ m, m = rs.length := ⟨_, rfl⟩
  rw [← hm] at HF HV hne ht1 hl
  have HM := Lib.hid hm
  clear h hb hr hf hv
  go_enter Try.func22, Try.ntmps22
  go_wp2_with fail
  refine HF.out.mono ?_
  rintro e w2 ⟨rfl, j, hw⟩
  have hb2 : Below (w.heap.size + 1) (w.alloc (.cells #[.int .i64 k, .int .i64 l, .int .i64 st, .slice A n c, .int .i64 f] 35)) w2 := by rw [hw]; exact below_draws (Below.refl _ _) j
  have hb2' : Below (w.alloc (.cells #[.int .i64 k, .int .i64 l, .int .i64 st, .slice A n c, .int .i64 f] 35)).heap.size (w.alloc (.cells #[.int .i64 k, .int .i64 l, .int .i64 st, .slice A n c, .int .i64 f] 35)) w2 := by rw [hw]; exact below_draws (Below.refl _ _) j
  replace HR := Lib.hid (HR.out.below hb2')
  have HB2 := Lib.hid hb2
  clear hw hb2 hb2' HF
  have HH := Lib.hid (Head_any HR.out ht0 (by rw [← hm]; exact ht1))
  rw [← hm] at HH
  clear hm
  go_wp2_with fail
  refine HH.out.mono ?_
  rintro e w5 ⟨rfl, j2, hw⟩
  replace HB2 : Hid (Below (w.heap.size + 1) (w.alloc (.cells #[.int .i64 k, .int .i64 l, .int .i64 st, .slice A n c, .int .i64 f] 35)) w5) := Lib.hid (by rw [hw]; exact below_draws HB2.out j2)
  replace HR : Hid (Rng w5 P size t rs) := Lib.hid (by rw [hw]; exact HR.out.below (below_draws (Below.refl _ _) j2))
  clear hw HH
  go_upto_region 4 with fail
  refine at_wld ?_
  intro Y hY
  subst w5
  have HBOX := Lib.hid (HBX.out.keep (HB2.out.block w.heap.size (Nat.lt_succ_self _)))
  have HBLT := Lib.hid HBOX.out.lt
  have HBY : Hid (Bytes Y Y.heap.size A n d) := Lib.hid (bytes_more (bytes_keep HBR.out (HB2.out.mono (Nat.le_succ _))) (Nat.le_of_lt HBLT.out))
  have HNO : Hid (P.v.ownBlock ≠ some w.heap.size) := Lib.hid (fun e => by have := HLT.out _ (.inr (.inl e)); omega)
  have HNG : Hid (w.heap.size ≠ P.g) := Lib.hid (fun e => by have := HLT.out P.g (.inl rfl); omega)
  obtain ⟨_, _, g0⟩ := HR.out.cells
  rw [HV.out] at g0
  have S0 := HBOX.out.cells
  have HMR : Hid (m = rs.length) := HM
  have HT0 : Hid (Turn P.own P.own w Y) := Lib.hid (Turn.of_below _ (HB.out.trans (HB2.out.mono (Nat.le_succ _))))
  clear HB HBX HB2 HBR HLT hne HM
  refine wp_region_held_drew (S := fun w' => w'.cell? ⟨w.heap.size, 0, none⟩ = some (.int .i64 k) ∧ w'.cell? ⟨w.heap.size, 1, none⟩ = some (.int .i64 l) ∧ w'.cell? ⟨w.heap.size, 2, none⟩ = some (.int .i64 st) ∧ w'.cell? ⟨w.heap.size, 3, none⟩ = some (.slice A n c) ∧ w'.cell? ⟨w.heap.size, 4, none⟩ = some (.int .i64 f)) (by kernel_rfl) ?_ (fun hHeld => ?_)
  · exact S0
  refine Hand.held_take (i := 0) (d := 12) (v := ?_) rfl rfl (by kernel_rfl) (by kernel_rfl) (by kernel_rfl) (by rfl) ?_ (by assumption) (fun _ _ _ h => h) ?_
  rotate_left
  · intro w hSw
    go_simp
    with_reducible rfl
  try simp only [Act.put, List.setIfInBounds_toArray, List.set_cons_zero, List.set_cons_succ]
  refine Hand.held_take (i := 1) (d := 13) (v := ?_) rfl rfl (by kernel_rfl) (by kernel_rfl) (by kernel_rfl) (by rfl) ?_ (by assumption) (fun _ _ _ h => h) ?_
  rotate_left
  · intro w hSw
    go_simp
    with_reducible rfl
  try simp only [Act.put, List.setIfInBounds_toArray, List.set_cons_zero, List.set_cons_succ]
  refine Hand.held_take (i := 2) (d := 14) (v := ?_) rfl rfl (by kernel_rfl) (by kernel_rfl) (by kernel_rfl) (by rfl) ?_ (by assumption) (fun _ _ _ h => h) ?_
  rotate_left
  · intro w hSw
    go_simp
    with_reducible rfl
  try simp only [Act.put, List.setIfInBounds_toArray, List.set_cons_zero, List.set_cons_succ]
  refine Hand.held_take (i := 3) (d := 15) (v := ?_) rfl rfl (by kernel_rfl) (by kernel_rfl) (by kernel_rfl) (by rfl) ?_ (by assumption) (fun _ _ _ h => h) ?_
  rotate_left
  · intro w hSw
    go_simp
    with_reducible rfl
  try simp only [Act.put, List.setIfInBounds_toArray, List.set_cons_zero, List.set_cons_succ]
  refine Hand.held_take (i := 5) (d := 17) (v := ?_) rfl rfl (by kernel_rfl) (by kernel_rfl) (by kernel_rfl) (by rfl) ?_ (by assumption) (fun _ _ _ h => h) ?_
  rotate_left
  · intro w hSw
    go_simp
    with_reducible rfl
  try simp only [Act.put, List.setIfInBounds_toArray, List.set_cons_zero, List.set_cons_succ]
  refine wpAnyH_ready (rs := [4, 6]) (by kernel_rfl) (by simp) ?_
  refine AllReadyH.cons rfl (fun K hK => ?_) (AllReadyH.cons rfl (fun K hK => ?_) AllReadyH.nil)
  · go_simp
    refine hK.out _ _ ?_ (fun hHeld => ?_)
    · first | exact S0 | exact S3 | exact S4 | exact S5 | exact S6
    clear hK K
    refine wpAnyH_ready (rs := [6]) (by kernel_rfl) (by simp) ?_
    refine AllReadyH.cons rfl (fun K hK => ?_) AllReadyH.nil
    go_simp
    go_wp2_with (go_at_call 40; refine (copied_any ⟨k, l, st, d, f⟩ A n c Y.heap.size Y.drew hn HBY.out (Nat.le_refl _)).mono ?_; rintro e w3 ⟨v3, rfl, ho3, hb3⟩)
    obtain ⟨A3, c3, rfl, _⟩ := ho3.span
    have HB3 : Hid (Below Y.heap.size Y w3) := Lib.hid ⟨hb3.os, hb3.tape, hb3.output, hb3.size, hb3.block⟩
    have HO3 : Hid (Own w3 Y.heap.size 5 (.slice A3 d.length c3) d) := Lib.hid ho3
    obtain ⟨_, _, g3⟩ := (HR.out.below HB3.out).cells
    rw [HV.out] at g3
    have g4 : (w3.alloc (.cells #[.int .i64 k, .int .i64 l, .int .i64 st, .slice A3 d.length c3, .int .i64 f, .int .i64 0] 66)).cell? ⟨P.g, 2, none⟩ = some (.slice Av m cv) := by
      rw [((Below.refl w3.heap.size w3).alloc (Nat.le_refl _) _).cell (p := ⟨P.g, 2, none⟩) (Nat.lt_of_lt_of_le HR.out.g_lt HB3.out.size)]
      exact g3
    have S3 := (HBOX.out.keep (HB3.out.block w.heap.size HBLT.out)).cells
    have S4 := (HBOX.out.keep ((Below.heap_alloc w3 (.cells #[.int .i64 k, .int .i64 l, .int .i64 st, .slice A3 d.length c3, .int .i64 f, .int .i64 0] 66) _ (Nat.lt_of_lt_of_le HBLT.out HB3.out.size)).trans (HB3.out.block w.heap.size HBLT.out))).cells
    clear ho3 hb3
    refine hK.out _ _ ?_ (fun hHeld => ?_)
    · first | exact S0 | exact S3 | exact S4 | exact S5 | exact S6
    clear hK K
    refine Hand.held_take (i := 7) (d := 19) (v := ?_) rfl rfl (by kernel_rfl) (by kernel_rfl) (by kernel_rfl) (by rfl) ?_ (by assumption) (fun _ _ _ h => h) ?_
    rotate_left
    · intro w hSw
      go_simp
      with_reducible rfl
    try simp only [Act.put, List.setIfInBounds_toArray, List.set_cons_zero, List.set_cons_succ]
    refine wpAnyH_ready (rs := [8]) (by kernel_rfl) (by simp) ?_
    refine AllReadyH.cons rfl (fun K hK => ?_) AllReadyH.nil
    go_simp
    refine hK.out _ _ ?_ (fun hHeld => ?_)
    · first | exact S0 | exact S3 | exact S4 | exact S5 | exact S6
    clear hK K
    refine wpAnyH_ready (rs := [9]) (by kernel_rfl) (by simp) ?_
    refine AllReadyH.cons rfl (fun K hK => ?_) AllReadyH.nil
    obtain ⟨v4, w4, hrun, hrow4, hg4, hl4⟩ := run_append_row (P := Try.prog) w3 0 56 56 66 6 64 (by omega) (by omega) Try.underlying56 infoH P.v (rs.map Row.cells) (HR.out.below HB3.out).rows [.int .i64 k, .int .i64 l, .int .i64 st, .slice A3 d.length c3, .int .i64 f, .int .i64 0] rfl (by intro u hu; simp only [List.mem_cons, List.not_mem_nil, or_false] at hu; rcases hu with rfl | rfl | rfl | rfl | rfl | rfl <;> rfl) (by rw [List.length_map]; omega) (Nat.zero_le _)
    rw [HV.out] at hrun
    obtain ⟨A6, m6, c6, hv4⟩ : ∃ A m c, v4 = .slice A m c := by
      obtain ⟨A, c, h, _⟩ := hrow4.form
      exact ⟨_, _, _, h⟩
    obtain ⟨P', e1, e2, e3⟩ := HR.out.more ⟨⟨k, l, st, d, f⟩, 0, .slice A3 d.length c3⟩ HB3.out rfl HO3.out (by rw [HD.out]; exact hn) v4 hrow4 hg4 hl4
    have HEND := Lib.hid (And.intro e1 (And.intro e2 (HT0.out.trans e3)))
    have hk4 : w4.cell? ⟨P.g, 2, none⟩ = some (.slice Av m cv) ∧ w4.frozen? ⟨P.g, 2, none⟩ = false := by
      have hh : w4.heap[P.g]? = some (.cells #[.int .i64 size, .int .i64 t, P.v] 58 (0, 0)) := by
        rw [hg4.block P.g (by have := HR.out.g_lt; have := HB3.out.size; simp; omega) (fun e => HR.out.g_v e.symm), Below.heap_alloc w3 _ _ (Nat.lt_of_lt_of_le HR.out.g_lt HB3.out.size), HB3.out.block _ HR.out.g_lt]
        exact HR.out.head
      rw [← HV.out]
      simp [World.cell?, World.frozen?, hh]
    obtain ⟨k4, f4⟩ := hk4
    have hB5 := (hg4.block w.heap.size (by have := HBLT.out; have := HB3.out.size; simp; omega) (fun e => HNO.out e.symm)).trans ((Below.heap_alloc w3 (.cells #[.int .i64 k, .int .i64 l, .int .i64 st, .slice A3 d.length c3, .int .i64 f, .int .i64 0] 66) _ (Nat.lt_of_lt_of_le HBLT.out HB3.out.size)).trans (HB3.out.block w.heap.size HBLT.out))
    have S5 := (HBOX.out.keep hB5).cells
    have S6 := (HBOX.out.keep ((Below.heap_setCell w4 ⟨P.g, 2, none⟩ v4 w.heap.size HNG.out).trans hB5)).cells
    subst hv4
    clear hrow4 hg4 hl4 e1 e2 e3 hB5
    refine step_append_run (o := ⟨some 21, _, _, _, _, _⟩) (by rfl) (.tmp 16) (.tmp 20) 56 (by rfl) (.slice Av m cv) (.slice (some ⟨w3.heap.size, 0, none⟩) 1 1) _ (by rfl) (by rfl) (fun _ => hrun) ?_
    refine hK.out _ _ ?_ (fun hHeld => ?_)
    · first | exact S0 | exact S3 | exact S4 | exact S5 | exact S6
    clear hK K
    refine Hand.held_take (i := 10) (d := 22) (v := ?_) rfl rfl (by kernel_rfl) (by kernel_rfl) (by kernel_rfl) (by rfl) ?_ (by assumption) (fun _ _ _ h => h) ?_
    rotate_left
    · intro w hSw
      go_simp
      with_reducible rfl
    try simp only [Act.put, List.setIfInBounds_toArray, List.set_cons_zero, List.set_cons_succ]
    refine Hand.held_take (i := 11) (d := 23) (v := ?_) rfl rfl (by kernel_rfl) (by kernel_rfl) (by kernel_rfl) (by rfl) ?_ (by assumption) (fun _ _ _ h => h) ?_
    rotate_left
    · intro w hSw
      go_simp
      with_reducible rfl
    try simp only [Act.put, List.setIfInBounds_toArray, List.set_cons_zero, List.set_cons_succ]
    refine wpAnyH_ready (rs := [12]) (by kernel_rfl) (by simp) ?_
    refine AllReadyH.cons rfl (fun K hK => ?_) AllReadyH.nil
    go_simp
    refine hK.out _ _ ?_ (fun hHeld => ?_)
    · first | exact S0 | exact S3 | exact S4 | exact S5 | exact S6
    clear hK K
    refine wpAnyH_done (by kernel_rfl) ?_ _
    clear hHeld
    go_wp2
    go_ret2
    exact ⟨by rw [← HMR.out]; rfl, P', _, HEND.out⟩
  · go_simp
    go_wp2_with (go_at_call 40; refine (copied_any ⟨k, l, st, d, f⟩ A n c Y.heap.size Y.drew hn HBY.out (Nat.le_refl _)).mono ?_; rintro e w3 ⟨v3, rfl, ho3, hb3⟩)
    obtain ⟨A3, c3, rfl, _⟩ := ho3.span
    have HB3 : Hid (Below Y.heap.size Y w3) := Lib.hid ⟨hb3.os, hb3.tape, hb3.output, hb3.size, hb3.block⟩
    have HO3 : Hid (Own w3 Y.heap.size 5 (.slice A3 d.length c3) d) := Lib.hid ho3
    obtain ⟨_, _, g3⟩ := (HR.out.below HB3.out).cells
    rw [HV.out] at g3
    have g4 : (w3.alloc (.cells #[.int .i64 k, .int .i64 l, .int .i64 st, .slice A3 d.length c3, .int .i64 f, .int .i64 0] 66)).cell? ⟨P.g, 2, none⟩ = some (.slice Av m cv) := by
      rw [((Below.refl w3.heap.size w3).alloc (Nat.le_refl _) _).cell (p := ⟨P.g, 2, none⟩) (Nat.lt_of_lt_of_le HR.out.g_lt HB3.out.size)]
      exact g3
    have S3 := (HBOX.out.keep (HB3.out.block w.heap.size HBLT.out)).cells
    have S4 := (HBOX.out.keep ((Below.heap_alloc w3 (.cells #[.int .i64 k, .int .i64 l, .int .i64 st, .slice A3 d.length c3, .int .i64 f, .int .i64 0] 66) _ (Nat.lt_of_lt_of_le HBLT.out HB3.out.size)).trans (HB3.out.block w.heap.size HBLT.out))).cells
    clear ho3 hb3
    refine hK.out _ _ ?_ (fun hHeld => ?_)
    · first | exact S0 | exact S3 | exact S4 | exact S5 | exact S6
    clear hK K
    refine Hand.held_take (i := 7) (d := 19) (v := ?_) rfl rfl (by kernel_rfl) (by kernel_rfl) (by kernel_rfl) (by rfl) ?_ (by assumption) (fun _ _ _ h => h) ?_
    rotate_left
    · intro w hSw
      go_simp
      with_reducible rfl
    try simp only [Act.put, List.setIfInBounds_toArray, List.set_cons_zero, List.set_cons_succ]
    refine wpAnyH_ready (rs := [4, 8]) (by kernel_rfl) (by simp) ?_
    refine AllReadyH.cons rfl (fun K hK => ?_) (AllReadyH.cons rfl (fun K hK => ?_) AllReadyH.nil)
    · go_simp
      refine hK.out _ _ ?_ (fun hHeld => ?_)
      · first | exact S0 | exact S3 | exact S4 | exact S5 | exact S6
      clear hK K
      refine wpAnyH_ready (rs := [8]) (by kernel_rfl) (by simp) ?_
      refine AllReadyH.cons rfl (fun K hK => ?_) AllReadyH.nil
      go_simp
      refine hK.out _ _ ?_ (fun hHeld => ?_)
      · first | exact S0 | exact S3 | exact S4 | exact S5 | exact S6
      clear hK K
      refine wpAnyH_ready (rs := [9]) (by kernel_rfl) (by simp) ?_
      refine AllReadyH.cons rfl (fun K hK => ?_) AllReadyH.nil
      obtain ⟨v4, w4, hrun, hrow4, hg4, hl4⟩ := run_append_row (P := Try.prog) w3 0 56 56 66 6 64 (by omega) (by omega) Try.underlying56 infoH P.v (rs.map Row.cells) (HR.out.below HB3.out).rows [.int .i64 k, .int .i64 l, .int .i64 st, .slice A3 d.length c3, .int .i64 f, .int .i64 0] rfl (by intro u hu; simp only [List.mem_cons, List.not_mem_nil, or_false] at hu; rcases hu with rfl | rfl | rfl | rfl | rfl | rfl <;> rfl) (by rw [List.length_map]; omega) (Nat.zero_le _)
      rw [HV.out] at hrun
      obtain ⟨A6, m6, c6, hv4⟩ : ∃ A m c, v4 = .slice A m c := by
        obtain ⟨A, c, h, _⟩ := hrow4.form
        exact ⟨_, _, _, h⟩
      obtain ⟨P', e1, e2, e3⟩ := HR.out.more ⟨⟨k, l, st, d, f⟩, 0, .slice A3 d.length c3⟩ HB3.out rfl HO3.out (by rw [HD.out]; exact hn) v4 hrow4 hg4 hl4
      have HEND := Lib.hid (And.intro e1 (And.intro e2 (HT0.out.trans e3)))
      have hk4 : w4.cell? ⟨P.g, 2, none⟩ = some (.slice Av m cv) ∧ w4.frozen? ⟨P.g, 2, none⟩ = false := by
        have hh : w4.heap[P.g]? = some (.cells #[.int .i64 size, .int .i64 t, P.v] 58 (0, 0)) := by
          rw [hg4.block P.g (by have := HR.out.g_lt; have := HB3.out.size; simp; omega) (fun e => HR.out.g_v e.symm), Below.heap_alloc w3 _ _ (Nat.lt_of_lt_of_le HR.out.g_lt HB3.out.size), HB3.out.block _ HR.out.g_lt]
          exact HR.out.head
        rw [← HV.out]
        simp [World.cell?, World.frozen?, hh]
      obtain ⟨k4, f4⟩ := hk4
      have hB5 := (hg4.block w.heap.size (by have := HBLT.out; have := HB3.out.size; simp; omega) (fun e => HNO.out e.symm)).trans ((Below.heap_alloc w3 (.cells #[.int .i64 k, .int .i64 l, .int .i64 st, .slice A3 d.length c3, .int .i64 f, .int .i64 0] 66) _ (Nat.lt_of_lt_of_le HBLT.out HB3.out.size)).trans (HB3.out.block w.heap.size HBLT.out))
      have S5 := (HBOX.out.keep hB5).cells
      have S6 := (HBOX.out.keep ((Below.heap_setCell w4 ⟨P.g, 2, none⟩ v4 w.heap.size HNG.out).trans hB5)).cells
      subst hv4
      clear hrow4 hg4 hl4 e1 e2 e3 hB5
      refine step_append_run (o := ⟨some 21, _, _, _, _, _⟩) (by rfl) (.tmp 16) (.tmp 20) 56 (by rfl) (.slice Av m cv) (.slice (some ⟨w3.heap.size, 0, none⟩) 1 1) _ (by rfl) (by rfl) (fun _ => hrun) ?_
      refine hK.out _ _ ?_ (fun hHeld => ?_)
      · first | exact S0 | exact S3 | exact S4 | exact S5 | exact S6
      clear hK K
      refine Hand.held_take (i := 10) (d := 22) (v := ?_) rfl rfl (by kernel_rfl) (by kernel_rfl) (by kernel_rfl) (by rfl) ?_ (by assumption) (fun _ _ _ h => h) ?_
      rotate_left
      · intro w hSw
        go_simp
        with_reducible rfl
      try simp only [Act.put, List.setIfInBounds_toArray, List.set_cons_zero, List.set_cons_succ]
      refine Hand.held_take (i := 11) (d := 23) (v := ?_) rfl rfl (by kernel_rfl) (by kernel_rfl) (by kernel_rfl) (by rfl) ?_ (by assumption) (fun _ _ _ h => h) ?_
      rotate_left
      · intro w hSw
        go_simp
        with_reducible rfl
      try simp only [Act.put, List.setIfInBounds_toArray, List.set_cons_zero, List.set_cons_succ]
      refine wpAnyH_ready (rs := [12]) (by kernel_rfl) (by simp) ?_
      refine AllReadyH.cons rfl (fun K hK => ?_) AllReadyH.nil
      go_simp
      refine hK.out _ _ ?_ (fun hHeld => ?_)
      · first | exact S0 | exact S3 | exact S4 | exact S5 | exact S6
      clear hK K
      refine wpAnyH_done (by kernel_rfl) ?_ _
      clear hHeld
      go_wp2
      go_ret2
      exact ⟨by rw [← HMR.out]; rfl, P', _, HEND.out⟩
    · go_simp
      refine hK.out _ _ ?_ (fun hHeld => ?_)
      · first | exact S0 | exact S3 | exact S4 | exact S5 | exact S6
      clear hK K
      refine wpAnyH_ready (rs := [4]) (by kernel_rfl) (by simp) ?_
      refine AllReadyH.cons rfl (fun K hK => ?_) AllReadyH.nil
      go_simp
      refine hK.out _ _ ?_ (fun hHeld => ?_)
      · first | exact S0 | exact S3 | exact S4 | exact S5 | exact S6
      clear hK K
      refine wpAnyH_ready (rs := [9]) (by kernel_rfl) (by simp) ?_
      refine AllReadyH.cons rfl (fun K hK => ?_) AllReadyH.nil
      obtain ⟨v4, w4, hrun, hrow4, hg4, hl4⟩ := run_append_row (P := Try.prog) w3 0 56 56 66 6 64 (by omega) (by omega) Try.underlying56 infoH P.v (rs.map Row.cells) (HR.out.below HB3.out).rows [.int .i64 k, .int .i64 l, .int .i64 st, .slice A3 d.length c3, .int .i64 f, .int .i64 0] rfl (by intro u hu; simp only [List.mem_cons, List.not_mem_nil, or_false] at hu; rcases hu with rfl | rfl | rfl | rfl | rfl | rfl <;> rfl) (by rw [List.length_map]; omega) (Nat.zero_le _)
      rw [HV.out] at hrun
      obtain ⟨A6, m6, c6, hv4⟩ : ∃ A m c, v4 = .slice A m c := by
        obtain ⟨A, c, h, _⟩ := hrow4.form
        exact ⟨_, _, _, h⟩
      obtain ⟨P', e1, e2, e3⟩ := HR.out.more ⟨⟨k, l, st, d, f⟩, 0, .slice A3 d.length c3⟩ HB3.out rfl HO3.out (by rw [HD.out]; exact hn) v4 hrow4 hg4 hl4
      have HEND := Lib.hid (And.intro e1 (And.intro e2 (HT0.out.trans e3)))
      have hk4 : w4.cell? ⟨P.g, 2, none⟩ = some (.slice Av m cv) ∧ w4.frozen? ⟨P.g, 2, none⟩ = false := by
        have hh : w4.heap[P.g]? = some (.cells #[.int .i64 size, .int .i64 t, P.v] 58 (0, 0)) := by
          rw [hg4.block P.g (by have := HR.out.g_lt; have := HB3.out.size; simp; omega) (fun e => HR.out.g_v e.symm), Below.heap_alloc w3 _ _ (Nat.lt_of_lt_of_le HR.out.g_lt HB3.out.size), HB3.out.block _ HR.out.g_lt]
          exact HR.out.head
        rw [← HV.out]
        simp [World.cell?, World.frozen?, hh]
      obtain ⟨k4, f4⟩ := hk4
      have hB5 := (hg4.block w.heap.size (by have := HBLT.out; have := HB3.out.size; simp; omega) (fun e => HNO.out e.symm)).trans ((Below.heap_alloc w3 (.cells #[.int .i64 k, .int .i64 l, .int .i64 st, .slice A3 d.length c3, .int .i64 f, .int .i64 0] 66) _ (Nat.lt_of_lt_of_le HBLT.out HB3.out.size)).trans (HB3.out.block w.heap.size HBLT.out))
      have S5 := (HBOX.out.keep hB5).cells
      have S6 := (HBOX.out.keep ((Below.heap_setCell w4 ⟨P.g, 2, none⟩ v4 w.heap.size HNG.out).trans hB5)).cells
      subst hv4
      clear hrow4 hg4 hl4 e1 e2 e3 hB5
      refine step_append_run (o := ⟨some 21, _, _, _, _, _⟩) (by rfl) (.tmp 16) (.tmp 20) 56 (by rfl) (.slice Av m cv) (.slice (some ⟨w3.heap.size, 0, none⟩) 1 1) _ (by rfl) (by rfl) (fun _ => hrun) ?_
      refine hK.out _ _ ?_ (fun hHeld => ?_)
      · first | exact S0 | exact S3 | exact S4 | exact S5 | exact S6
      clear hK K
      refine Hand.held_take (i := 10) (d := 22) (v := ?_) rfl rfl (by kernel_rfl) (by kernel_rfl) (by kernel_rfl) (by rfl) ?_ (by assumption) (fun _ _ _ h => h) ?_
      rotate_left
      · intro w hSw
        go_simp
        with_reducible rfl
      try simp only [Act.put, List.setIfInBounds_toArray, List.set_cons_zero, List.set_cons_succ]
      refine Hand.held_take (i := 11) (d := 23) (v := ?_) rfl rfl (by kernel_rfl) (by kernel_rfl) (by kernel_rfl) (by rfl) ?_ (by assumption) (fun _ _ _ h => h) ?_
      rotate_left
      · intro w hSw
        go_simp
        with_reducible rfl
      try simp only [Act.put, List.setIfInBounds_toArray, List.set_cons_zero, List.set_cons_succ]
      refine wpAnyH_ready (rs := [12]) (by kernel_rfl) (by simp) ?_
      refine AllReadyH.cons rfl (fun K hK => ?_) AllReadyH.nil
      go_simp
      refine hK.out _ _ ?_ (fun hHeld => ?_)
      · first | exact S0 | exact S3 | exact S4 | exact S5 | exact S6
      clear hK K
      refine wpAnyH_done (by kernel_rfl) ?_ _
      clear hHeld
      go_wp2
      go_ret2
      exact ⟨by rw [← HMR.out]; rfl, P', _, HEND.out⟩

theorem Get_none {w : World} {P : Pl} {size t : Int} {rs : List Row} (h : Rng w P size t rs) (h0 : 0 ≤ t) (h1 : t + rs.length ≤ 1000000000000) (pos : Int) (hp : ¬ (t ≤ pos ∧ pos < t + rs.length)) :
    Calls Try.prog 28 #[ptr P.g, .int .i64 pos] w fun e w' => e = .returned (.tuple #[slotV ⟨0, 0, 0, [], 0⟩ (.slice none 0 0), .int .i64 12]) ∧ Below w.heap.size w w' := by
  have hb := (Below.refl w.heap.size w).alloc (Nat.le_refl _) (.cells #[.int .i64 0, .int .i64 0, .int .i64 0, .slice none 0 0, .int .i64 0] 35)
  have HA : Hid (Calls Try.prog 46 #[ptr P.g, .int .i64 pos] (w.alloc (.cells #[.int .i64 0, .int .i64 0, .int .i64 0, .slice none 0 0, .int .i64 0] 35)) fun e w' => e = .returned (.pointer none) ∧ Below (w.alloc (.cells #[.int .i64 0, .int .i64 0, .int .i64 0, .slice none 0 0, .int .i64 0] 35)).heap.size (w.alloc (.cells #[.int .i64 0, .int .i64 0, .int .i64 0, .slice none 0 0, .int .i64 0] 35)) w') := Lib.hid (by
    by_cases hl : pos < t
    · exact at_low (h.below hb) pos hl
    · exact at_high (h.below hb) h0 h1 pos (by omega))
  have H2 := Lib.hid (Five.new w 35 (.int .i64 0) (.int .i64 0) (.int .i64 0) (.slice none 0 0) (.int .i64 0))
  have HB := Lib.hid hb
  clear h hp hb
  go_enter Try.func28, Try.ntmps28
  go_wp2_with fail
  refine HA.out.mono ?_
  rintro e w2 ⟨rfl, hb⟩
  replace H2 := Lib.hid (H2.out.below hb)
  replace HB := Lib.hid (below_on HB.out hb HB.out.size)
  clear hb HA
  obtain ⟨d0, d1, d2, d3, d4⟩ := H2.out.cells
  obtain ⟨f0, f1, f2, f3, f4⟩ := H2.out.free
  go_wp2
  clear f0 f1 f2 f3 f4 d0 d1 d2 d3 d4
  have hP := H2.out.set (.int .i64 0) (.int .i64 0) (.int .i64 0) (.slice none 0 0) (.int .i64 0)
  have HX := Lib.hid (below_set5 HB.out (Nat.le_refl _) (.int .i64 0) (.int .i64 0) (.int .i64 0) (.slice none 0 0) (.int .i64 0))
  clear H2 HB
  generalize World.setCell _ _ _ = Y at hP HX ⊢
  obtain ⟨P0, P1, P2, P3, P4⟩ := hP.cells
  refine bodyPost_ret (v := .tuple #[slotV ⟨0, 0, 0, [], 0⟩ (.slice none 0 0), .int .i64 12]) ?_ rfl ⟨rfl, HX.out⟩
  simp [results, Try.results28, go_sem, P0, P1, P2, P3, P4]

theorem Get_ok {w : World} {P : Pl} {size t : Int} {rs : List Row} (h : Rng w P size t rs) (h0 : 0 ≤ t) (h1 : t + rs.length ≤ 1000000000000) (pos : Int) (i : Nat) (r : Row) (hp : pos = t + i) (hr : rs[i]? = some r) :
    Calls Try.prog 28 #[ptr P.g, .int .i64 pos] w fun e w' => ∃ v, e = .returned (.tuple #[slotV r.s v, .int .i64 0]) ∧ Own w' w.heap.size 5 v r.s.d ∧ Below w.heap.size w w' := by
  have hl := (List.getElem?_eq_some_iff.1 hr).1
  obtain ⟨b, c, hv, _⟩ := h.at_ hr
  have hb := (Below.refl w.heap.size w).alloc (Nat.le_refl _) (.cells #[.int .i64 0, .int .i64 0, .int .i64 0, .slice none 0 0, .int .i64 0] 35)
  have HA := Lib.hid (at_in (h.below hb) h0 h1 pos i b rs.length c hp hl hv)
  have H2 := Lib.hid (Five.new w 35 (.int .i64 0) (.int .i64 0) (.int .i64 0) (.slice none 0 0) (.int .i64 0))
  have HR := Lib.hid (h.below hb)
  have HB := Lib.hid hb
  have HV := Lib.hid hv
  have HRR := Lib.hid hr
  clear h hp hb hv hr hl
  go_enter Try.func28, Try.ntmps28
  go_wp2_with fail
  refine HA.out.mono ?_
  rintro e w2 ⟨rfl, hb⟩
  replace H2 := Lib.hid (H2.out.below hb)
  replace HR := Lib.hid (HR.out.below hb)
  replace HB := Lib.hid (below_on HB.out hb HB.out.size)
  have HSZ : Hid (w.heap.size + 1 ≤ w2.heap.size) := Lib.hid (by have := hb.size; simpa using this)
  clear hb HA
  obtain ⟨b', c', hv', _, _, _, _, hcl⟩ := HR.out.at_ HRR.out
  rw [HV.out] at hv'
  injection hv' with e1 e2 e3
  injection e1 with e1
  injection e1 with e1
  subst e1 e3
  have q0 := (hcl 0 _ rfl).1
  have q1 := (hcl 1 _ rfl).1
  have q2 := (hcl 2 _ rfl).1
  have q3 := (hcl 3 _ rfl).1
  have q4 := (hcl 4 _ rfl).1
  rw [Nat.add_zero] at q0
  obtain ⟨A, cd, hvd, _, _, hsm, hlie⟩ := HR.out.data r (List.mem_of_getElem? HRR.out)
  obtain ⟨⟨k, l, st, d, f⟩, q, v⟩ := r
  simp only at q0 q1 q2 q3 q4 hvd hsm hlie ⊢
  subst hvd
  have HC := Lib.hid (copied_any ⟨k, l, st, d, f⟩ A d.length cd w2.heap.size w2 hsm (hlie.bytes (fun b hb => HR.out.d_lt b hb)) (Nat.le_refl _))
  clear hcl e2 hlie
  go_wp2_with fail
  refine HC.out.mono ?_
  rintro e w3 ⟨v3, rfl, ho, hb⟩
  obtain ⟨A3, c3, rfl, _⟩ := ho.span
  replace H2 := Lib.hid (H2.out.below hb)
  replace HB := Lib.hid (below_on HB.out hb HB.out.size)
  have HO := Lib.hid (ho.le HSZ.out)
  clear ho hb HC q0 q1 q2 q3 q4
  obtain ⟨d0, d1, d2, d3, d4⟩ := H2.out.cells
  obtain ⟨f0, f1, f2, f3, f4⟩ := H2.out.free
  go_wp2
  clear f0 f1 f2 f3 f4 d0 d1 d2 d3 d4
  have hP := H2.out.set (.int .i64 k) (.int .i64 l) (.int .i64 st) (.slice A3 d.length c3) (.int .i64 f)
  have HX := Lib.hid (below_set5 HB.out (Nat.le_refl _) (.int .i64 k) (.int .i64 l) (.int .i64 st) (.slice A3 d.length c3) (.int .i64 f))
  have HK : Hid (∀ b, w.heap.size + 1 ≤ b → (((((w3.setCell ⟨w.heap.size, 0, none⟩ (.int .i64 k)).setCell ⟨w.heap.size, 1, none⟩ (.int .i64 l)).setCell ⟨w.heap.size, 2, none⟩ (.int .i64 st)).setCell ⟨w.heap.size, 3, none⟩ (.slice A3 d.length c3)).setCell ⟨w.heap.size, 4, none⟩ (.int .i64 f)).heap[b]? = w3.heap[b]?) := Lib.hid (fun b hb => other_set5 (by omega) _ _ _ _ _)
  clear H2 HB
  generalize World.setCell _ _ _ = Y at hP HX HK ⊢
  obtain ⟨P0, P1, P2, P3, P4⟩ := hP.cells
  refine bodyPost_ret (v := .tuple #[slotV ⟨k, l, st, d, f⟩ (.slice A3 d.length c3), .int .i64 0]) ?_ rfl ⟨_, rfl, ?_, HX.out⟩
  · simp [results, Try.results28, go_sem, P0, P1, P2, P3, P4]
  · exact (HO.out.keep fun b hb => HK.out b (HO.out.block b hb)).le (by omega)
end Go.Proofs.Ytecmmihobojjpaa.RingPkg
