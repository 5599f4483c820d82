/-
  What the document's ring does, the last part: Put.
-/
import Derived.Test.YtecmmihobojjpaaRingRefM
namespace Go.Proofs.Ytecmmihobojjpaa.RingRef
open Go.RowKit Ring RingPkg
set_option maxRecDepth 4000

theorem infoSl : rowInfo Try.prog 35 5 56 := by
  have h : ((Try.prog.info? 35).bind (·.zero)).map (·.cells.size) = some 5 := by kernel_rfl
  cases hz : ((Try.prog.info? 35).bind (·.zero)) with
  | none => rw [hz] at h; cases h
  | some z =>
    rw [hz] at h
    injection h with h
    exact ⟨_, z, rfl, hz, by kernel_rfl, by kernel_rfl, h⟩

theorem wpList_append_run {Pr : Program} {w w' : World} {ops : Array Oper} {rest : List Oper} {o : Oper} {a : Act} {Q : Exit → Act → World → Prop} (hgd : o.guard = none) (s x : Operand) (t : TypeId)
    (ho : o.op = .call { callee := .builtin .append, args := #[s, x], argTypes := #[t, t] }) (v1 v2 v' : Value) (hs : a.eval s = v1) (hx : a.eval x = v2) (hrun : ∀ ty, (Builtin.append_ #[t, t] ty #[v1, v2]).run Pr w = .ok v' w') (h : wpList Pr ops Q rest (a.put o.dst v') w') : wpList Pr ops Q (o :: rest) a w :=
  wpList_plain hgd fun _ hK => by
    unfold Oper.wp execOp
    simp only [ho, resolve, invoke, builtin, Sem.run_bind, Sem.run_pure, Result.andThen_ok, List.map_toArray, List.map_cons, List.map_nil, hs, hx, hrun]
    exact hK _ _ h

theorem Put_full {w : World} {P : Pl} {size : Int} {all : List (Slot × Int)} (h : Ref w P size all) (hl : all.length ≤ 1000000) (h0 : 0 ≤ size) (h1 : size ≤ 1000000) (hf : size - all.length + tl all < 1) (s : Slot) (v : Value) (hv : ∃ A n c, v = .slice A n c) :
    Calls Try.prog 33 #[ptr P.g, slotV s v] w fun e w' => e = .returned (.tuple #[.int .i64 0, .int .i64 11]) ∧ Below w.heap.size w w' := by
  obtain ⟨A, n, c, rfl⟩ := hv
  obtain ⟨k, l, st, d, f⟩ := s
  have hb := (Below.refl w.heap.size w).alloc (Nat.le_refl _) (.cells #[.int .i64 k, .int .i64 l, .int .i64 st, .slice A n c, .int .i64 f] 35)
  have HF := Lib.hid (Free_any (h.below hb) hl h0 h1)
  have HB := Lib.hid hb
  clear h hb
  generalize size - (all.length : Int) + tl all = z at hf HF
  go_enter Try.func33, Try.ntmps33
  go_wp2_with fail
  refine HF.out.mono ?_
  rintro e w2 ⟨rfl, j, hw⟩
  replace HB : Hid (Below w.heap.size w w2) := Lib.hid (by rw [hw]; exact below_draws HB.out j)
  clear hw
  go_wp2
  go_ret2
  exact ⟨rfl, HB.out⟩

set_option maxHeartbeats 4000000 in
theorem Put_ok {w : World} {P : Pl} {size : Int} {all : List (Slot × Int)} (h : Ref w P size all) (hl : all.length ≤ 1000000) (h0 : 0 ≤ size) (h1 : size ≤ 1000000) (hf : ¬ size - all.length + tl all < 1) (s : Slot) (A : Option Addr) (n c : Nat) (hn : n ≤ 100000000000000) (hr : Bytes w w.heap.size A n s.d) :
    Calls Try.prog 33 #[ptr P.g, slotV s (.slice A n c)] w fun e w' => e = .returned (.tuple #[.int .i64 all.length, .int .i64 0]) ∧ ∃ P', P'.g = P.g ∧ Ref w' P' size (all ++ [(s, 0)]) ∧ Turn P.own P'.own w w' := by
  obtain ⟨k, l, st, d, f⟩ := s
  have hb := (Below.refl w.heap.size w).alloc (Nat.le_refl _) (.cells #[.int .i64 k, .int .i64 l, .int .i64 st, .slice A n c, .int .i64 f] 35)
  have HD : Hid (d.length = n) := Lib.hid hr.1
  have HBX := Lib.hid (Five.new w 35 (.int .i64 k) (.int .i64 l) (.int .i64 st) (.slice A n c) (.int .i64 f))
  have HF := Lib.hid (Free_any (h.below hb) hl h0 h1)
  have HR := Lib.hid (h.below hb)
  have HB := Lib.hid hb
  have HLT := Lib.hid h.lt
  have HBR := Lib.hid (bytes_keep hr hb)
  obtain ⟨Av, cv, hv, _⟩ := h.slots
  obtain ⟨Au, cu, hu, _⟩ := h.states
  have HV := Lib.hid hv
  have HU := Lib.hid hu
  generalize size - (all.length : Int) + tl all = z at hf HF
  obtain ⟨m, hm⟩ : ∃ m, m = all.length := ⟨_, rfl⟩
  rw [← hm] at HV HU
  have HMR := Lib.hid hm
  have hml : m ≤ 1000000 := by omega
  clear h hb hr hv hu hm
  go_enter Try.func33, Try.ntmps33
  go_wp2_with fail
  refine HF.out.mono ?_
  rintro e w2 ⟨rfl, j, hw⟩
  have hb2 : Below (w.heap.size + 1) (w.alloc (.cells #[.int .i64 k, .int .i64 l, .int .i64 st, .slice A n c, .int .i64 f] 35)) w2 := by rw [hw]; exact below_draws (Below.refl _ _) j
  have hb2' : Below (w.alloc (.cells #[.int .i64 k, .int .i64 l, .int .i64 st, .slice A n c, .int .i64 f] 35)).heap.size (w.alloc (.cells #[.int .i64 k, .int .i64 l, .int .i64 st, .slice A n c, .int .i64 f] 35)) w2 := by rw [hw]; exact below_draws (Below.refl _ _) j
  replace HR := Lib.hid (HR.out.below hb2')
  have HB2 := Lib.hid hb2
  clear hw hb2 hb2' HF
  go_upto_region 3 with fail
  refine at_wld ?_
  intro Y hY
  subst w2
  have HBOX := Lib.hid (HBX.out.keep (HB2.out.block w.heap.size (Nat.lt_succ_self _)))
  have HBLT := Lib.hid HBOX.out.lt
  have HBY : Hid (Bytes Y Y.heap.size A n d) := Lib.hid (bytes_more (bytes_keep HBR.out (HB2.out.mono (Nat.le_succ _))) (Nat.le_of_lt HBLT.out))
  have HNO : Hid (P.v.ownBlock ≠ some w.heap.size) := Lib.hid (fun e => by have := HLT.out _ (.inr (.inl e)); omega)
  have HNG : Hid (w.heap.size ≠ P.g) := Lib.hid (fun e => by have := HLT.out P.g (.inl rfl); omega)
  obtain ⟨vs, hvs, hrows, hdat⟩ := HR.out.rows
  have HVS := Lib.hid hvs
  have HROWS := Lib.hid hrows
  have HDAT := Lib.hid hdat
  obtain ⟨_, g0, _⟩ := HR.out.cells
  rw [HV.out] at g0
  have S0 := HBOX.out.cells
  have HT0 : Hid (Turn P.own P.own w Y) := Lib.hid (Turn.of_below _ (HB.out.trans (HB2.out.mono (Nat.le_succ _))))
  clear HB HBX HB2 HBR HLT hvs hrows hdat
  refine wp_region_held_drew (S := fun w' => w'.cell? ⟨w.heap.size, 0, none⟩ = some (.int .i64 k) ∧ w'.cell? ⟨w.heap.size, 1, none⟩ = some (.int .i64 l) ∧ w'.cell? ⟨w.heap.size, 2, none⟩ = some (.int .i64 st) ∧ w'.cell? ⟨w.heap.size, 3, none⟩ = some (.slice A n c) ∧ w'.cell? ⟨w.heap.size, 4, none⟩ = some (.int .i64 f)) (by kernel_rfl) ?_ (fun hHeld => ?_)
  · exact S0
  refine Hand.held_take (i := 0) (d := 9) (v := ?_) rfl rfl (by kernel_rfl) (by kernel_rfl) (by kernel_rfl) (by rfl) ?_ (by assumption) (fun _ _ _ h => h) ?_
  rotate_left
  · intro w hSw
    go_simp
    with_reducible rfl
  try simp only [Act.put, List.setIfInBounds_toArray, List.set_cons_zero, List.set_cons_succ]
  refine Hand.held_take (i := 1) (d := 10) (v := ?_) rfl rfl (by kernel_rfl) (by kernel_rfl) (by kernel_rfl) (by rfl) ?_ (by assumption) (fun _ _ _ h => h) ?_
  rotate_left
  · intro w hSw
    go_simp
    with_reducible rfl
  try simp only [Act.put, List.setIfInBounds_toArray, List.set_cons_zero, List.set_cons_succ]
  refine Hand.held_take (i := 2) (d := 11) (v := ?_) rfl rfl (by kernel_rfl) (by kernel_rfl) (by kernel_rfl) (by rfl) ?_ (by assumption) (fun _ _ _ h => h) ?_
  rotate_left
  · intro w hSw
    go_simp
    with_reducible rfl
  try simp only [Act.put, List.setIfInBounds_toArray, List.set_cons_zero, List.set_cons_succ]
  refine Hand.held_take (i := 3) (d := 12) (v := ?_) rfl rfl (by kernel_rfl) (by kernel_rfl) (by kernel_rfl) (by rfl) ?_ (by assumption) (fun _ _ _ h => h) ?_
  rotate_left
  · intro w hSw
    go_simp
    with_reducible rfl
  try simp only [Act.put, List.setIfInBounds_toArray, List.set_cons_zero, List.set_cons_succ]
  refine Hand.held_take (i := 5) (d := 14) (v := ?_) rfl rfl (by kernel_rfl) (by kernel_rfl) (by kernel_rfl) (by rfl) ?_ (by assumption) (fun _ _ _ h => h) ?_
  rotate_left
  · intro w hSw
    go_simp
    with_reducible rfl
  try simp only [Act.put, List.setIfInBounds_toArray, List.set_cons_zero, List.set_cons_succ]
  refine wpAnyH_ready (rs := [4, 6]) (by kernel_rfl) (by simp) ?_
  refine AllReadyH.cons rfl (fun K hK => ?_) (AllReadyH.cons rfl (fun K hK => ?_) AllReadyH.nil)
  · go_simp
    refine hK.out _ _ ?_ (fun hHeld => ?_)
    · first | exact S0 | exact S3 | exact S4 | exact S5 | exact S6
    clear hK K
    refine wpAnyH_ready (rs := [6]) (by kernel_rfl) (by simp) ?_
    refine AllReadyH.cons rfl (fun K hK => ?_) AllReadyH.nil
    go_simp
    go_wp2_with (go_at_call 23; refine (Copy_any ⟨k, l, st, d, f⟩ A n c Y.heap.size Y.drew hn HBY.out (Nat.le_refl _)).mono ?_; rintro e w3 ⟨v3, rfl, ho3, hb3⟩)
    obtain ⟨A3, c3, rfl, _⟩ := ho3.span
    have HB3 : Hid (Below Y.heap.size Y w3) := Lib.hid ⟨hb3.os, hb3.tape, hb3.output, hb3.size, hb3.block⟩
    have HO3 : Hid (Own w3 Y.heap.size 5 (.slice A3 d.length c3) d) := Lib.hid ho3
    obtain ⟨_, g3, _⟩ := (HR.out.below HB3.out).cells
    rw [HV.out] at g3
    have g4 : (w3.alloc (.cells #[.int .i64 k, .int .i64 l, .int .i64 st, .slice A3 d.length c3, .int .i64 f] 35)).cell? ⟨P.g, 1, none⟩ = some (.slice Av m cv) := by
      rw [((Below.refl w3.heap.size w3).alloc (Nat.le_refl _) _).cell (p := ⟨P.g, 1, none⟩) (Nat.lt_of_lt_of_le HR.out.g_lt HB3.out.size)]
      exact g3
    have S3 := (HBOX.out.keep (HB3.out.block w.heap.size HBLT.out)).cells
    have S4 := (HBOX.out.keep ((Below.heap_alloc w3 (.cells #[.int .i64 k, .int .i64 l, .int .i64 st, .slice A3 d.length c3, .int .i64 f] 35) _ (Nat.lt_of_lt_of_le HBLT.out HB3.out.size)).trans (HB3.out.block w.heap.size HBLT.out))).cells
    clear ho3 hb3
    refine hK.out _ _ ?_ (fun hHeld => ?_)
    · first | exact S0 | exact S3 | exact S4 | exact S5 | exact S6
    clear hK K
    refine wpAnyH_ready (rs := [7]) (by kernel_rfl) (by simp) ?_
    refine AllReadyH.cons rfl (fun K hK => ?_) AllReadyH.nil
    go_simp
    refine hK.out _ _ ?_ (fun hHeld => ?_)
    · first | exact S0 | exact S3 | exact S4 | exact S5 | exact S6
    clear hK K
    refine wpAnyH_ready (rs := [8]) (by kernel_rfl) (by simp) ?_
    refine AllReadyH.cons rfl (fun K hK => ?_) AllReadyH.nil
    obtain ⟨v4, w4, hrun, hrow4, hg4, hl4⟩ := run_append_row (P := Try.prog) w3 0 40 40 35 5 56 (by omega) (by omega) Try.underlying40 infoSl P.v (List.zipWith (fun x v => scells x.1 v) all vs) (HROWS.out.below HB3.out) [.int .i64 k, .int .i64 l, .int .i64 st, .slice A3 d.length c3, .int .i64 f] rfl (by intro u hu; simp only [List.mem_cons, List.not_mem_nil, or_false] at hu; rcases hu with rfl | rfl | rfl | rfl | rfl <;> rfl) (by rw [zip_len HVS.out]; omega) (Nat.zero_le _)
    rw [HV.out] at hrun
    obtain ⟨A6, m6, c6, hv4⟩ : ∃ A m c, v4 = .slice A m c := by
      obtain ⟨A, c, h, _⟩ := hrow4.form
      exact ⟨_, _, _, h⟩
    have hm6 : m6 = m + 1 := by
      obtain ⟨A, c, h, _⟩ := hrow4.form
      rw [hv4] at h
      injection h with _ h
      rw [h, List.length_append, zip_len HVS.out, ← HMR.out]
      rfl
    have hh4 : w4.heap[P.g]? = some (.cells #[.int .i64 size, P.v, P.u] 60 (0, 0)) := by
      rw [hg4.block P.g (by have := HR.out.g_lt; have := HB3.out.size; simp; omega) (fun e => HR.out.g_v e.symm), Below.heap_alloc w3 _ _ (Nat.lt_of_lt_of_le HR.out.g_lt HB3.out.size), HB3.out.block _ HR.out.g_lt]
      exact HR.out.head
    have hk4 : w4.cell? ⟨P.g, 1, none⟩ = some (.slice Av m cv) ∧ w4.frozen? ⟨P.g, 1, none⟩ = false := by
      rw [← HV.out]
      simp [World.cell?, World.frozen?, hh4]
    obtain ⟨k4, f4⟩ := hk4
    have hB5 := (hg4.block w.heap.size (by have := HBLT.out; have := HB3.out.size; simp; omega) (fun e => HNO.out e.symm)).trans ((Below.heap_alloc w3 (.cells #[.int .i64 k, .int .i64 l, .int .i64 st, .slice A3 d.length c3, .int .i64 f] 35) _ (Nat.lt_of_lt_of_le HBLT.out HB3.out.size)).trans (HB3.out.block w.heap.size HBLT.out))
    have S5 := (HBOX.out.keep hB5).cells
    have S6 := (HBOX.out.keep ((Below.heap_setCell w4 ⟨P.g, 1, none⟩ v4 w.heap.size HNG.out).trans hB5)).cells
    subst hv4
    subst hm6
    have HROW4 := Lib.hid hrow4
    have HG4 := Lib.hid hg4
    have HL4 := Lib.hid hl4
    have HH4 := Lib.hid hh4
    clear hrow4 hg4 hl4 hB5 hh4
    refine step_append_run (o := ⟨some 17, _, _, _, _, _⟩) (by rfl) (.tmp 13) (.tmp 16) 40 (by rfl) (.slice Av m cv) (.slice (some ⟨w3.heap.size, 0, none⟩) 1 1) _ (by rfl) (by rfl) (fun _ => hrun) ?_
    refine hK.out _ _ ?_ (fun hHeld => ?_)
    · first | exact S0 | exact S3 | exact S4 | exact S5 | exact S6
    clear hK K
    refine Hand.held_take (i := 9) (d := 18) (v := ?_) rfl rfl (by kernel_rfl) (by kernel_rfl) (by kernel_rfl) (by rfl) ?_ (by assumption) (fun _ _ _ h => h) ?_
    rotate_left
    · intro w hSw
      go_simp
      with_reducible rfl
    try simp only [Act.put, List.setIfInBounds_toArray, List.set_cons_zero, List.set_cons_succ]
    refine Hand.held_take (i := 10) (d := 19) (v := ?_) rfl rfl (by kernel_rfl) (by kernel_rfl) (by kernel_rfl) (by rfl) ?_ (by assumption) (fun _ _ _ h => h) ?_
    rotate_left
    · intro w hSw
      go_simp
      with_reducible rfl
    try simp only [Act.put, List.setIfInBounds_toArray, List.set_cons_zero, List.set_cons_succ]
    refine wpAnyH_ready (rs := [11]) (by kernel_rfl) (by simp) ?_
    refine AllReadyH.cons rfl (fun K hK => ?_) AllReadyH.nil
    go_simp
    refine hK.out _ _ ?_ (fun hHeld => ?_)
    · first | exact S0 | exact S3 | exact S4 | exact S5 | exact S6
    clear hK K
    refine wpAnyH_done (by kernel_rfl) ?_ _
    clear hHeld S0 S3 S4 S5 S6
    clear g0 g3 g4 k4 f4 hrun
    go_upto_region 4 with fail
    refine at_wld ?_
    intro Z hZ
    have HZX := Lib.hid hZ
    have HZ5 : Hid (Z.heap[P.g]? = some (.cells #[.int .i64 size, .slice A6 (m + 1) c6, P.u] 60 (0, 0))) := Lib.hid (by rw [hZ]; have h4 := HH4.out; simp [World.setCell, Array.getElem?_modify, h4])
    have HINT : Hid (OwnI Z 0 3 P.u (all.map (·.2))) := Lib.hid (by
      have h1 := (HR.out.below HB3.out).ints
      have h2 : OwnI w4 0 3 P.u (all.map (·.2)) := h1.keep fun b hb => by
        have hbl := HR.out.ints.lt b hb
        have hs := HB3.out.size
        rw [HG4.out.block b (by simp; omega) (fun e => HR.out.v_u b e.symm hb), Below.heap_alloc w3 _ b (by omega)]
      exact h2.keep fun b hb => by rw [hZ, Below.heap_setCell _ _ _ _ (fun e => HR.out.g_u (by rw [hb, show b = P.g from e]))])
    have HZL : Hid (P.g < Z.heap.size) := Lib.hid (Array.getElem?_eq_some_iff.1 HZ5.out).1
    clear hZ
    have u0 : Z.cell? ⟨P.g, 2, none⟩ = some (.slice Au m cu) := by
      have h5 := HZ5.out
      rw [← HU.out]
      simp [World.cell?, h5]
    obtain ⟨u7, w7, hrun7, hint7, hg7, hl7⟩ := run_append_int2 (P := Try.prog) Z 0 41 41 3 Try.underlying41 infoI P.u (all.map (·.2)) HINT.out 0 (by rw [List.length_map]; omega) (Nat.zero_le _)
    rw [HU.out] at hrun7
    obtain ⟨A7, m7, c7, hv7⟩ := hint7.form
    have hh7 : w7.heap[P.g]? = some (.cells #[.int .i64 size, .slice A6 (m + 1) c6, P.u] 60 (0, 0)) := by
      rw [hg7.block P.g (by have := HZL.out; simp; omega) (fun e => HR.out.g_u e.symm), Below.heap_alloc _ _ _ HZL.out]
      exact HZ5.out
    have HH7 := Lib.hid hh7
    have hk7 : w7.cell? ⟨P.g, 2, none⟩ = some (.slice Au m cu) ∧ w7.frozen? ⟨P.g, 2, none⟩ = false ∧ w7.cell? ⟨P.g, 1, none⟩ = some (.slice A6 (m + 1) c6) := by
      rw [← HU.out]
      simp [World.cell?, World.frozen?, hh7]
    obtain ⟨k7, f7, k71⟩ := hk7
    have HEND := Lib.hid (HR.out.more ⟨k, l, st, d, f⟩ (.slice A3 d.length c3) HVS.out HDAT.out HB3.out HO3.out (by rw [HD.out]; exact hn) (.slice A6 (m + 1) c6) u7 HROW4.out HG4.out HL4.out (w7 := w7) (by have h := hg7; rw [HZX.out] at h; exact h) hint7 (fun b hb => (hl7 b hb).imp id (fun h => by rw [HZX.out] at h; simpa using h)))
    subst hv7
    clear hint7 hg7 hl7 hh7
    go_wp2_with (at_builtin; refine wpList_append_run rfl _ _ _ rfl (.slice Au m cu) (.slice (some ⟨Z.heap.size, 0, none⟩) 1 1) _ rfl rfl (fun _ => hrun7) ?_)
    obtain ⟨P', y1, y2, y3⟩ := HEND.out
    have HY := Lib.hid (And.intro y1 (And.intro y2 (HT0.out.trans y3)))
    have k81 : (w7.setCell ⟨P.g, 2, none⟩ (.slice A7 m7 c7)).cell? ⟨P.g, 1, none⟩ = some (.slice A6 (m + 1) c6) := by
      have h7 := HH7.out
      have h8 : (w7.setCell ⟨P.g, 2, none⟩ (.slice A7 m7 c7)).heap[P.g]? = some (.cells #[.int .i64 size, .slice A6 (m + 1) c6, .slice A7 m7 c7] 60 (0, 0)) := by simp [World.setCell, Array.getElem?_modify, h7]
      simp [World.cell?, h8]
    clear y1 y2 y3 HEND hrun7 u0
    go_wp2
    go_ret2
    exact ⟨by rw [← HMR.out]; rfl, P', HY.out⟩
  · go_simp
    go_wp2_with (go_at_call 23; refine (Copy_any ⟨k, l, st, d, f⟩ A n c Y.heap.size Y.drew hn HBY.out (Nat.le_refl _)).mono ?_; rintro e w3 ⟨v3, rfl, ho3, hb3⟩)
    obtain ⟨A3, c3, rfl, _⟩ := ho3.span
    have HB3 : Hid (Below Y.heap.size Y w3) := Lib.hid ⟨hb3.os, hb3.tape, hb3.output, hb3.size, hb3.block⟩
    have HO3 : Hid (Own w3 Y.heap.size 5 (.slice A3 d.length c3) d) := Lib.hid ho3
    obtain ⟨_, g3, _⟩ := (HR.out.below HB3.out).cells
    rw [HV.out] at g3
    have g4 : (w3.alloc (.cells #[.int .i64 k, .int .i64 l, .int .i64 st, .slice A3 d.length c3, .int .i64 f] 35)).cell? ⟨P.g, 1, none⟩ = some (.slice Av m cv) := by
      rw [((Below.refl w3.heap.size w3).alloc (Nat.le_refl _) _).cell (p := ⟨P.g, 1, none⟩) (Nat.lt_of_lt_of_le HR.out.g_lt HB3.out.size)]
      exact g3
    have S3 := (HBOX.out.keep (HB3.out.block w.heap.size HBLT.out)).cells
    have S4 := (HBOX.out.keep ((Below.heap_alloc w3 (.cells #[.int .i64 k, .int .i64 l, .int .i64 st, .slice A3 d.length c3, .int .i64 f] 35) _ (Nat.lt_of_lt_of_le HBLT.out HB3.out.size)).trans (HB3.out.block w.heap.size HBLT.out))).cells
    clear ho3 hb3
    refine hK.out _ _ ?_ (fun hHeld => ?_)
    · first | exact S0 | exact S3 | exact S4 | exact S5 | exact S6
    clear hK K
    refine wpAnyH_ready (rs := [4, 7]) (by kernel_rfl) (by simp) ?_
    refine AllReadyH.cons rfl (fun K hK => ?_) (AllReadyH.cons rfl (fun K hK => ?_) AllReadyH.nil)
    · go_simp
      refine hK.out _ _ ?_ (fun hHeld => ?_)
      · first | exact S0 | exact S3 | exact S4 | exact S5 | exact S6
      clear hK K
      refine wpAnyH_ready (rs := [7]) (by kernel_rfl) (by simp) ?_
      refine AllReadyH.cons rfl (fun K hK => ?_) AllReadyH.nil
      go_simp
      refine hK.out _ _ ?_ (fun hHeld => ?_)
      · first | exact S0 | exact S3 | exact S4 | exact S5 | exact S6
      clear hK K
      refine wpAnyH_ready (rs := [8]) (by kernel_rfl) (by simp) ?_
      refine AllReadyH.cons rfl (fun K hK => ?_) AllReadyH.nil
      obtain ⟨v4, w4, hrun, hrow4, hg4, hl4⟩ := run_append_row (P := Try.prog) w3 0 40 40 35 5 56 (by omega) (by omega) Try.underlying40 infoSl P.v (List.zipWith (fun x v => scells x.1 v) all vs) (HROWS.out.below HB3.out) [.int .i64 k, .int .i64 l, .int .i64 st, .slice A3 d.length c3, .int .i64 f] rfl (by intro u hu; simp only [List.mem_cons, List.not_mem_nil, or_false] at hu; rcases hu with rfl | rfl | rfl | rfl | rfl <;> rfl) (by rw [zip_len HVS.out]; omega) (Nat.zero_le _)
      rw [HV.out] at hrun
      obtain ⟨A6, m6, c6, hv4⟩ : ∃ A m c, v4 = .slice A m c := by
        obtain ⟨A, c, h, _⟩ := hrow4.form
        exact ⟨_, _, _, h⟩
      have hm6 : m6 = m + 1 := by
        obtain ⟨A, c, h, _⟩ := hrow4.form
        rw [hv4] at h
        injection h with _ h
        rw [h, List.length_append, zip_len HVS.out, ← HMR.out]
        rfl
      have hh4 : w4.heap[P.g]? = some (.cells #[.int .i64 size, P.v, P.u] 60 (0, 0)) := by
        rw [hg4.block P.g (by have := HR.out.g_lt; have := HB3.out.size; simp; omega) (fun e => HR.out.g_v e.symm), Below.heap_alloc w3 _ _ (Nat.lt_of_lt_of_le HR.out.g_lt HB3.out.size), HB3.out.block _ HR.out.g_lt]
        exact HR.out.head
      have hk4 : w4.cell? ⟨P.g, 1, none⟩ = some (.slice Av m cv) ∧ w4.frozen? ⟨P.g, 1, none⟩ = false := by
        rw [← HV.out]
        simp [World.cell?, World.frozen?, hh4]
      obtain ⟨k4, f4⟩ := hk4
      have hB5 := (hg4.block w.heap.size (by have := HBLT.out; have := HB3.out.size; simp; omega) (fun e => HNO.out e.symm)).trans ((Below.heap_alloc w3 (.cells #[.int .i64 k, .int .i64 l, .int .i64 st, .slice A3 d.length c3, .int .i64 f] 35) _ (Nat.lt_of_lt_of_le HBLT.out HB3.out.size)).trans (HB3.out.block w.heap.size HBLT.out))
      have S5 := (HBOX.out.keep hB5).cells
      have S6 := (HBOX.out.keep ((Below.heap_setCell w4 ⟨P.g, 1, none⟩ v4 w.heap.size HNG.out).trans hB5)).cells
      subst hv4
      subst hm6
      have HROW4 := Lib.hid hrow4
      have HG4 := Lib.hid hg4
      have HL4 := Lib.hid hl4
      have HH4 := Lib.hid hh4
      clear hrow4 hg4 hl4 hB5 hh4
      refine step_append_run (o := ⟨some 17, _, _, _, _, _⟩) (by rfl) (.tmp 13) (.tmp 16) 40 (by rfl) (.slice Av m cv) (.slice (some ⟨w3.heap.size, 0, none⟩) 1 1) _ (by rfl) (by rfl) (fun _ => hrun) ?_
      refine hK.out _ _ ?_ (fun hHeld => ?_)
      · first | exact S0 | exact S3 | exact S4 | exact S5 | exact S6
      clear hK K
      refine Hand.held_take (i := 9) (d := 18) (v := ?_) rfl rfl (by kernel_rfl) (by kernel_rfl) (by kernel_rfl) (by rfl) ?_ (by assumption) (fun _ _ _ h => h) ?_
      rotate_left
      · intro w hSw
        go_simp
        with_reducible rfl
      try simp only [Act.put, List.setIfInBounds_toArray, List.set_cons_zero, List.set_cons_succ]
      refine Hand.held_take (i := 10) (d := 19) (v := ?_) rfl rfl (by kernel_rfl) (by kernel_rfl) (by kernel_rfl) (by rfl) ?_ (by assumption) (fun _ _ _ h => h) ?_
      rotate_left
      · intro w hSw
        go_simp
        with_reducible rfl
      try simp only [Act.put, List.setIfInBounds_toArray, List.set_cons_zero, List.set_cons_succ]
      refine wpAnyH_ready (rs := [11]) (by kernel_rfl) (by simp) ?_
      refine AllReadyH.cons rfl (fun K hK => ?_) AllReadyH.nil
      go_simp
      refine hK.out _ _ ?_ (fun hHeld => ?_)
      · first | exact S0 | exact S3 | exact S4 | exact S5 | exact S6
      clear hK K
      refine wpAnyH_done (by kernel_rfl) ?_ _
      clear hHeld S0 S3 S4 S5 S6
      clear g0 g3 g4 k4 f4 hrun
      go_upto_region 4 with fail
      refine at_wld ?_
      intro Z hZ
      have HZX := Lib.hid hZ
      have HZ5 : Hid (Z.heap[P.g]? = some (.cells #[.int .i64 size, .slice A6 (m + 1) c6, P.u] 60 (0, 0))) := Lib.hid (by rw [hZ]; have h4 := HH4.out; simp [World.setCell, Array.getElem?_modify, h4])
      have HINT : Hid (OwnI Z 0 3 P.u (all.map (·.2))) := Lib.hid (by
        have h1 := (HR.out.below HB3.out).ints
        have h2 : OwnI w4 0 3 P.u (all.map (·.2)) := h1.keep fun b hb => by
          have hbl := HR.out.ints.lt b hb
          have hs := HB3.out.size
          rw [HG4.out.block b (by simp; omega) (fun e => HR.out.v_u b e.symm hb), Below.heap_alloc w3 _ b (by omega)]
        exact h2.keep fun b hb => by rw [hZ, Below.heap_setCell _ _ _ _ (fun e => HR.out.g_u (by rw [hb, show b = P.g from e]))])
      have HZL : Hid (P.g < Z.heap.size) := Lib.hid (Array.getElem?_eq_some_iff.1 HZ5.out).1
      clear hZ
      have u0 : Z.cell? ⟨P.g, 2, none⟩ = some (.slice Au m cu) := by
        have h5 := HZ5.out
        rw [← HU.out]
        simp [World.cell?, h5]
      obtain ⟨u7, w7, hrun7, hint7, hg7, hl7⟩ := run_append_int2 (P := Try.prog) Z 0 41 41 3 Try.underlying41 infoI P.u (all.map (·.2)) HINT.out 0 (by rw [List.length_map]; omega) (Nat.zero_le _)
      rw [HU.out] at hrun7
      obtain ⟨A7, m7, c7, hv7⟩ := hint7.form
      have hh7 : w7.heap[P.g]? = some (.cells #[.int .i64 size, .slice A6 (m + 1) c6, P.u] 60 (0, 0)) := by
        rw [hg7.block P.g (by have := HZL.out; simp; omega) (fun e => HR.out.g_u e.symm), Below.heap_alloc _ _ _ HZL.out]
        exact HZ5.out
      have HH7 := Lib.hid hh7
      have hk7 : w7.cell? ⟨P.g, 2, none⟩ = some (.slice Au m cu) ∧ w7.frozen? ⟨P.g, 2, none⟩ = false ∧ w7.cell? ⟨P.g, 1, none⟩ = some (.slice A6 (m + 1) c6) := by
        rw [← HU.out]
        simp [World.cell?, World.frozen?, hh7]
      obtain ⟨k7, f7, k71⟩ := hk7
      have HEND := Lib.hid (HR.out.more ⟨k, l, st, d, f⟩ (.slice A3 d.length c3) HVS.out HDAT.out HB3.out HO3.out (by rw [HD.out]; exact hn) (.slice A6 (m + 1) c6) u7 HROW4.out HG4.out HL4.out (w7 := w7) (by have h := hg7; rw [HZX.out] at h; exact h) hint7 (fun b hb => (hl7 b hb).imp id (fun h => by rw [HZX.out] at h; simpa using h)))
      subst hv7
      clear hint7 hg7 hl7 hh7
      go_wp2_with (at_builtin; refine wpList_append_run rfl _ _ _ rfl (.slice Au m cu) (.slice (some ⟨Z.heap.size, 0, none⟩) 1 1) _ rfl rfl (fun _ => hrun7) ?_)
      obtain ⟨P', y1, y2, y3⟩ := HEND.out
      have HY := Lib.hid (And.intro y1 (And.intro y2 (HT0.out.trans y3)))
      have k81 : (w7.setCell ⟨P.g, 2, none⟩ (.slice A7 m7 c7)).cell? ⟨P.g, 1, none⟩ = some (.slice A6 (m + 1) c6) := by
        have h7 := HH7.out
        have h8 : (w7.setCell ⟨P.g, 2, none⟩ (.slice A7 m7 c7)).heap[P.g]? = some (.cells #[.int .i64 size, .slice A6 (m + 1) c6, .slice A7 m7 c7] 60 (0, 0)) := by simp [World.setCell, Array.getElem?_modify, h7]
        simp [World.cell?, h8]
      clear y1 y2 y3 HEND hrun7 u0
      go_wp2
      go_ret2
      exact ⟨by rw [← HMR.out]; rfl, P', HY.out⟩
    · go_simp
      refine hK.out _ _ ?_ (fun hHeld => ?_)
      · first | exact S0 | exact S3 | exact S4 | exact S5 | exact S6
      clear hK K
      refine wpAnyH_ready (rs := [4]) (by kernel_rfl) (by simp) ?_
      refine AllReadyH.cons rfl (fun K hK => ?_) AllReadyH.nil
      go_simp
      refine hK.out _ _ ?_ (fun hHeld => ?_)
      · first | exact S0 | exact S3 | exact S4 | exact S5 | exact S6
      clear hK K
      refine wpAnyH_ready (rs := [8]) (by kernel_rfl) (by simp) ?_
      refine AllReadyH.cons rfl (fun K hK => ?_) AllReadyH.nil
      obtain ⟨v4, w4, hrun, hrow4, hg4, hl4⟩ := run_append_row (P := Try.prog) w3 0 40 40 35 5 56 (by omega) (by omega) Try.underlying40 infoSl P.v (List.zipWith (fun x v => scells x.1 v) all vs) (HROWS.out.below HB3.out) [.int .i64 k, .int .i64 l, .int .i64 st, .slice A3 d.length c3, .int .i64 f] rfl (by intro u hu; simp only [List.mem_cons, List.not_mem_nil, or_false] at hu; rcases hu with rfl | rfl | rfl | rfl | rfl <;> rfl) (by rw [zip_len HVS.out]; omega) (Nat.zero_le _)
      rw [HV.out] at hrun
      obtain ⟨A6, m6, c6, hv4⟩ : ∃ A m c, v4 = .slice A m c := by
        obtain ⟨A, c, h, _⟩ := hrow4.form
        exact ⟨_, _, _, h⟩
      have hm6 : m6 = m + 1 := by
        obtain ⟨A, c, h, _⟩ := hrow4.form
        rw [hv4] at h
        injection h with _ h
        rw [h, List.length_append, zip_len HVS.out, ← HMR.out]
        rfl
      have hh4 : w4.heap[P.g]? = some (.cells #[.int .i64 size, P.v, P.u] 60 (0, 0)) := by
        rw [hg4.block P.g (by have := HR.out.g_lt; have := HB3.out.size; simp; omega) (fun e => HR.out.g_v e.symm), Below.heap_alloc w3 _ _ (Nat.lt_of_lt_of_le HR.out.g_lt HB3.out.size), HB3.out.block _ HR.out.g_lt]
        exact HR.out.head
      have hk4 : w4.cell? ⟨P.g, 1, none⟩ = some (.slice Av m cv) ∧ w4.frozen? ⟨P.g, 1, none⟩ = false := by
        rw [← HV.out]
        simp [World.cell?, World.frozen?, hh4]
      obtain ⟨k4, f4⟩ := hk4
      have hB5 := (hg4.block w.heap.size (by have := HBLT.out; have := HB3.out.size; simp; omega) (fun e => HNO.out e.symm)).trans ((Below.heap_alloc w3 (.cells #[.int .i64 k, .int .i64 l, .int .i64 st, .slice A3 d.length c3, .int .i64 f] 35) _ (Nat.lt_of_lt_of_le HBLT.out HB3.out.size)).trans (HB3.out.block w.heap.size HBLT.out))
      have S5 := (HBOX.out.keep hB5).cells
      have S6 := (HBOX.out.keep ((Below.heap_setCell w4 ⟨P.g, 1, none⟩ v4 w.heap.size HNG.out).trans hB5)).cells
      subst hv4
      subst hm6
      have HROW4 := Lib.hid hrow4
      have HG4 := Lib.hid hg4
      have HL4 := Lib.hid hl4
      have HH4 := Lib.hid hh4
      clear hrow4 hg4 hl4 hB5 hh4
      refine step_append_run (o := ⟨some 17, _, _, _, _, _⟩) (by rfl) (.tmp 13) (.tmp 16) 40 (by rfl) (.slice Av m cv) (.slice (some ⟨w3.heap.size, 0, none⟩) 1 1) _ (by rfl) (by rfl) (fun _ => hrun) ?_
      refine hK.out _ _ ?_ (fun hHeld => ?_)
      · first | exact S0 | exact S3 | exact S4 | exact S5 | exact S6
      clear hK K
      refine Hand.held_take (i := 9) (d := 18) (v := ?_) rfl rfl (by kernel_rfl) (by kernel_rfl) (by kernel_rfl) (by rfl) ?_ (by assumption) (fun _ _ _ h => h) ?_
      rotate_left
      · intro w hSw
        go_simp
        with_reducible rfl
      try simp only [Act.put, List.setIfInBounds_toArray, List.set_cons_zero, List.set_cons_succ]
      refine Hand.held_take (i := 10) (d := 19) (v := ?_) rfl rfl (by kernel_rfl) (by kernel_rfl) (by kernel_rfl) (by rfl) ?_ (by assumption) (fun _ _ _ h => h) ?_
      rotate_left
      · intro w hSw
        go_simp
        with_reducible rfl
      try simp only [Act.put, List.setIfInBounds_toArray, List.set_cons_zero, List.set_cons_succ]
      refine wpAnyH_ready (rs := [11]) (by kernel_rfl) (by simp) ?_
      refine AllReadyH.cons rfl (fun K hK => ?_) AllReadyH.nil
      go_simp
      refine hK.out _ _ ?_ (fun hHeld => ?_)
      · first | exact S0 | exact S3 | exact S4 | exact S5 | exact S6
      clear hK K
      refine wpAnyH_done (by kernel_rfl) ?_ _
      clear hHeld S0 S3 S4 S5 S6
      clear g0 g3 g4 k4 f4 hrun
      go_upto_region 4 with fail
      refine at_wld ?_
      intro Z hZ
      have HZX := Lib.hid hZ
      have HZ5 : Hid (Z.heap[P.g]? = some (.cells #[.int .i64 size, .slice A6 (m + 1) c6, P.u] 60 (0, 0))) := Lib.hid (by rw [hZ]; have h4 := HH4.out; simp [World.setCell, Array.getElem?_modify, h4])
      have HINT : Hid (OwnI Z 0 3 P.u (all.map (·.2))) := Lib.hid (by
        have h1 := (HR.out.below HB3.out).ints
        have h2 : OwnI w4 0 3 P.u (all.map (·.2)) := h1.keep fun b hb => by
          have hbl := HR.out.ints.lt b hb
          have hs := HB3.out.size
          rw [HG4.out.block b (by simp; omega) (fun e => HR.out.v_u b e.symm hb), Below.heap_alloc w3 _ b (by omega)]
        exact h2.keep fun b hb => by rw [hZ, Below.heap_setCell _ _ _ _ (fun e => HR.out.g_u (by rw [hb, show b = P.g from e]))])
      have HZL : Hid (P.g < Z.heap.size) := Lib.hid (Array.getElem?_eq_some_iff.1 HZ5.out).1
      clear hZ
      have u0 : Z.cell? ⟨P.g, 2, none⟩ = some (.slice Au m cu) := by
        have h5 := HZ5.out
        rw [← HU.out]
        simp [World.cell?, h5]
      obtain ⟨u7, w7, hrun7, hint7, hg7, hl7⟩ := run_append_int2 (P := Try.prog) Z 0 41 41 3 Try.underlying41 infoI P.u (all.map (·.2)) HINT.out 0 (by rw [List.length_map]; omega) (Nat.zero_le _)
      rw [HU.out] at hrun7
      obtain ⟨A7, m7, c7, hv7⟩ := hint7.form
      have hh7 : w7.heap[P.g]? = some (.cells #[.int .i64 size, .slice A6 (m + 1) c6, P.u] 60 (0, 0)) := by
        rw [hg7.block P.g (by have := HZL.out; simp; omega) (fun e => HR.out.g_u e.symm), Below.heap_alloc _ _ _ HZL.out]
        exact HZ5.out
      have HH7 := Lib.hid hh7
      have hk7 : w7.cell? ⟨P.g, 2, none⟩ = some (.slice Au m cu) ∧ w7.frozen? ⟨P.g, 2, none⟩ = false ∧ w7.cell? ⟨P.g, 1, none⟩ = some (.slice A6 (m + 1) c6) := by
        rw [← HU.out]
        simp [World.cell?, World.frozen?, hh7]
      obtain ⟨k7, f7, k71⟩ := hk7
      have HEND := Lib.hid (HR.out.more ⟨k, l, st, d, f⟩ (.slice A3 d.length c3) HVS.out HDAT.out HB3.out HO3.out (by rw [HD.out]; exact hn) (.slice A6 (m + 1) c6) u7 HROW4.out HG4.out HL4.out (w7 := w7) (by have h := hg7; rw [HZX.out] at h; exact h) hint7 (fun b hb => (hl7 b hb).imp id (fun h => by rw [HZX.out] at h; simpa using h)))
      subst hv7
      clear hint7 hg7 hl7 hh7
      go_wp2_with (at_builtin; refine wpList_append_run rfl _ _ _ rfl (.slice Au m cu) (.slice (some ⟨Z.heap.size, 0, none⟩) 1 1) _ rfl rfl (fun _ => hrun7) ?_)
      obtain ⟨P', y1, y2, y3⟩ := HEND.out
      have HY := Lib.hid (And.intro y1 (And.intro y2 (HT0.out.trans y3)))
      have k81 : (w7.setCell ⟨P.g, 2, none⟩ (.slice A7 m7 c7)).cell? ⟨P.g, 1, none⟩ = some (.slice A6 (m + 1) c6) := by
        have h7 := HH7.out
        have h8 : (w7.setCell ⟨P.g, 2, none⟩ (.slice A7 m7 c7)).heap[P.g]? = some (.cells #[.int .i64 size, .slice A6 (m + 1) c6, .slice A7 m7 c7] 60 (0, 0)) := by simp [World.setCell, Array.getElem?_modify, h7]
        simp [World.cell?, h8]
      clear y1 y2 y3 HEND hrun7 u0
      go_wp2
      go_ret2
      exact ⟨by rw [← HMR.out]; rfl, P', HY.out⟩
end Go.Proofs.Ytecmmihobojjpaa.RingRef
