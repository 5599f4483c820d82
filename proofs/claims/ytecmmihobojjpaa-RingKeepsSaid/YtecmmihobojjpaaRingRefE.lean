/-
  What the document's ring does, the fifth part: Copy, Get, Put.
-/
import Derived.Test.YtecmmihobojjpaaRingRefD
import Derived.Test.YtecmmihobojjpaaHeld
namespace Go.Proofs.Ytecmmihobojjpaa.RingRef
open Go.RowKit Ring RingPkg
set_option maxRecDepth 4000

/-- A slot with bytes of its own. -/
theorem Copy_any (s : Slot) (A : Option Addr) (n c B : Nat) (w : World) (hn : n ≤ 100000000000000) (hr : Bytes w B A n s.d) (hB : B ≤ w.heap.size) :
    Calls Try.prog 23 #[slotV s (.slice A n c)] w fun e w' => ∃ v, e = .returned (slotV s v) ∧ Own w' w.heap.size 5 v s.d ∧ Below w.heap.size w w' := by
  obtain ⟨k, l, st, d, f⟩ := s
  have HR := Lib.hid hr
  clear hr
  show Calls Try.prog 23 #[.agg #[.int .i64 k, .int .i64 l, .int .i64 st, .slice A n c, .int .i64 f]] w fun e w' => ∃ v, e = .returned (.agg #[.int .i64 k, .int .i64 l, .int .i64 st, v, .int .i64 f]) ∧ Own w' w.heap.size 5 v d ∧ Below w.heap.size w w'
  have H1 := Lib.hid ((Five.new w 35 (.int .i64 k) (.int .i64 l) (.int .i64 st) (.slice A n c) (.int .i64 f)).old (.cells #[.int .i64 0, .int .i64 0, .int .i64 0, .slice none 0 0, .int .i64 0] 35))
  have H2 := Lib.hid (Five.new (w.alloc (.cells #[.int .i64 k, .int .i64 l, .int .i64 st, .slice A n c, .int .i64 f] 35)) 35 (.int .i64 0) (.int .i64 0) (.int .i64 0) (.slice none 0 0) (.int .i64 0))
  have hb0 := ((Below.refl w.heap.size w).alloc (Nat.le_refl _) (.cells #[.int .i64 k, .int .i64 l, .int .i64 st, .slice A n c, .int .i64 f] 35))
  have HB := Lib.hid (hb0.alloc hb0.size (.cells #[.int .i64 0, .int .i64 0, .int .i64 0, .slice none 0 0, .int .i64 0] 35))
  clear hb0
  rw [show (w.alloc (.cells #[.int .i64 k, .int .i64 l, .int .i64 st, .slice A n c, .int .i64 f] 35)).heap.size = w.heap.size + 1 by simp] at H2
  go_enter Try.func23, Try.ntmps23
  have hlen : ([] : List UInt8).length + n ≤ 140737488355328 := by simp; omega
  obtain ⟨W, hW⟩ : ∃ W, W = (w.alloc (.cells #[.int .i64 k, .int .i64 l, .int .i64 st, .slice A n c, .int .i64 f] 35)).alloc (.cells #[.int .i64 0, .int .i64 0, .int .i64 0, .slice none 0 0, .int .i64 0] 35) := ⟨_, rfl⟩
  have HWS : Hid (W.heap.size = w.heap.size + 2) := Lib.hid (by rw [hW]; simp)
  go_upto_region 1 with fail
  refine at_wld ?_
  intro W2 hW2
  obtain rfl : W = W2 := hW.trans hW2.symm
  rw [← hW2] at H1 H2 HB
  clear hW hW2
  obtain ⟨_, _, _, c3, _⟩ := H1.out.cells
  have hH1 := (H1.out.old (.cells #[] 5)).cells
  obtain ⟨_, _, _, c3', _⟩ := hH1
  have HRW := Lib.hid (bytes_keep (bytes_keep (bytes_more HR.out hB) HB.out) ((Below.refl w.heap.size W).alloc HB.out.size (.cells #[] 5)))
  go_wp2_with (at_builtin; refine wpList_append_bytes _ rfl _ _ _ rfl W.heap.size 5 Try.underlying33 info8 _ [] rfl (own_new W 5 [] _ rfl (Nat.zero_le _)) w.heap.size A n c d rfl HRW.out hlen (by simp) ?_)
  intro v X ho hg _
  have hb : Below W.heap.size W X := ((Below.refl W.heap.size W).alloc (Nat.le_refl _) _).grown hg (by simp) (fun k hk => by simp [Value.ownBlock] at hk; omega)
  replace ho : Own X W.heap.size 5 v d := ho
  clear hg c3 c3' HRW hlen
  replace H1 := Lib.hid (H1.out.below hb)
  replace H2 := Lib.hid (H2.out.below hb)
  obtain ⟨A2, cc, rfl, _⟩ := ho.span
  have HO : Hid (Own X (w.heap.size + 2) 5 (.slice A2 d.length cc) d) := Lib.hid (by rw [← HWS.out]; exact ho)
  replace HB := Lib.hid (below_on HB.out hb HB.out.size)
  clear ho hb
  obtain ⟨c0, c1, c2, c3, c4⟩ := H1.out.cells
  obtain ⟨_, _, _, f3, _⟩ := H1.out.free
  obtain ⟨f5, f6, f7, f8, f9⟩ := H2.out.free
  obtain ⟨d0, d1, d2, d3, d4⟩ := H2.out.cells
  go_wp2
  clear c0 c1 c2 c3 c4 f3 f5 f6 f7 f8 f9 d0 d1 d2 d3 d4
  have hP := (H2.out.keep (w' := X.setCell ⟨w.heap.size, 3, none⟩ (.slice A2 d.length cc)) (Below.heap_setCell _ _ _ _ (by simp))).set (.int .i64 k) (.int .i64 l) (.int .i64 st) (.slice A2 d.length cc) (.int .i64 f)
  have HX := Lib.hid (below_set5 (HB.out.setCell (p := ⟨w.heap.size, 3, none⟩) (Nat.le_refl _) (.slice A2 d.length cc)) (Nat.le_succ _) (.int .i64 k) (.int .i64 l) (.int .i64 st) (.slice A2 d.length cc) (.int .i64 f))
  have HK : Hid (∀ b, w.heap.size + 2 ≤ b → ((((((X.setCell ⟨w.heap.size, 3, none⟩ (.slice A2 d.length cc)).setCell ⟨w.heap.size + 1, 0, none⟩ (.int .i64 k)).setCell ⟨w.heap.size + 1, 1, none⟩ (.int .i64 l)).setCell ⟨w.heap.size + 1, 2, none⟩ (.int .i64 st)).setCell ⟨w.heap.size + 1, 3, none⟩ (.slice A2 d.length cc)).setCell ⟨w.heap.size + 1, 4, none⟩ (.int .i64 f)).heap[b]? = X.heap[b]?) := Lib.hid (fun b hb => by
    rw [other_set5 (by omega), Below.heap_setCell _ _ _ _ (by simp; omega)])
  clear H1 H2 HB
  generalize World.setCell _ _ _ = Y at hP HX HK ⊢
  obtain ⟨P0, P1, P2, P3, P4⟩ := hP.cells
  refine bodyPost_ret (v := slotV ⟨k, l, st, d, f⟩ (.slice A2 d.length cc)) ?_ rfl ⟨_, rfl, ?_, HX.out⟩
  · simp [results, Try.results23, go_sem, P0, P1, P2, P3, P4]
  · exact (HO.out.keep fun b hb => HK.out b (HO.out.block b hb)).le (by omega)

section
variable {w : World} {P : Pl} {size : Int} {all : List (Slot × Int)}

theorem Get_none (h : Ref w P size all) (hl : all.length ≤ 1000000) (pos : Int) (hp : ¬ there all pos) :
    Calls Try.prog 38 #[ptr P.g, .int .i64 pos] w fun e w' => e = .returned (.tuple #[slotV ⟨0, 0, 0, [], 0⟩ (.slice none 0 0), .int .i64 12]) ∧ Below w.heap.size w w' := by
  have hb := (Below.refl w.heap.size w).alloc (Nat.le_refl _) (.cells #[.int .i64 0, .int .i64 0, .int .i64 0, .slice none 0 0, .int .i64 0] 35)
  have HT := Lib.hid (Tail_any (h.below hb) hl)
  have HH := Lib.hid (Head_any (h.below hb))
  have H2 := Lib.hid (Five.new w 35 (.int .i64 0) (.int .i64 0) (.int .i64 0) (.slice none 0 0) (.int .i64 0))
  have HB := Lib.hid hb
  have hor : pos < tl all ∨ (¬ pos < tl all ∧ (all.length : Int) ≤ pos) := by unfold there at hp; omega
  clear h hp hb
  generalize tl all = t at *
  generalize all.length = n at *
  rcases hor with hor | ⟨hor, hor2⟩
  · go_enter Try.func38, Try.ntmps38
    go_wp2_with fail
    refine HT.out.mono ?_
    rintro e w2 ⟨rfl, hw⟩
    subst w2
    obtain ⟨d0, d1, d2, d3, d4⟩ := H2.out.cells
    obtain ⟨f0, f1, f2, f3, f4⟩ := H2.out.free
    go_wp2
    clear f0 f1 f2 f3 f4 d0 d1 d2 d3 d4
    obtain ⟨P0, P1, P2, P3, P4⟩ := H2.out.cells
    refine bodyPost_ret (v := .tuple #[slotV ⟨0, 0, 0, [], 0⟩ (.slice none 0 0), .int .i64 12]) ?_ rfl ⟨rfl, HB.out⟩
    simp [results, Try.results38, go_sem, P0, P1, P2, P3, P4]
  · go_enter Try.func38, Try.ntmps38
    go_wp2_with fail
    refine HT.out.mono ?_
    rintro e w2 ⟨rfl, hw⟩
    subst w2
    go_wp2_with fail
    refine HH.out.mono ?_
    rintro e w2 ⟨rfl, hw⟩
    subst w2
    obtain ⟨d0, d1, d2, d3, d4⟩ := H2.out.cells
    obtain ⟨f0, f1, f2, f3, f4⟩ := H2.out.free
    go_wp2
    clear f0 f1 f2 f3 f4 d0 d1 d2 d3 d4
    obtain ⟨P0, P1, P2, P3, P4⟩ := H2.out.cells
    refine bodyPost_ret (v := .tuple #[slotV ⟨0, 0, 0, [], 0⟩ (.slice none 0 0), .int .i64 12]) ?_ rfl ⟨rfl, HB.out⟩
    simp [results, Try.results38, go_sem, P0, P1, P2, P3, P4]

theorem Get_ok (h : Ref w P size all) (hl : all.length ≤ 1000000) (i : Nat) (x : Slot × Int) (hi : tl all ≤ i) (hx : all[i]? = some x) :
    Calls Try.prog 38 #[ptr P.g, .int .i64 i] w fun e w' => ∃ v, e = .returned (.tuple #[slotV x.1 v, .int .i64 0]) ∧ Own w' w.heap.size 5 v x.1.d ∧ Below w.heap.size w w' := by
  have hlt := (List.getElem?_eq_some_iff.1 hx).1
  have hb := (Below.refl w.heap.size w).alloc (Nat.le_refl _) (.cells #[.int .i64 0, .int .i64 0, .int .i64 0, .slice none 0 0, .int .i64 0] 35)
  have hr := h.below hb
  have HT := Lib.hid (Tail_any hr hl)
  have HH := Lib.hid (Head_any hr)
  have H2 := Lib.hid (Five.new w 35 (.int .i64 0) (.int .i64 0) (.int .i64 0) (.slice none 0 0) (.int .i64 0))
  have HB := Lib.hid hb
  obtain ⟨_, hc1, _⟩ := hr.cells
  obtain ⟨b, c, v, hv, hnc, hcm, _, hdat, hcl⟩ := hr.slot hx
  rw [hv] at hc1
  have hc63 : c ≤ 9223372036854775807 := hcm
  have q0 := hcl 0 _ rfl
  have q1 := hcl 1 _ rfl
  have q2 := hcl 2 _ rfl
  have q3 := hcl 3 _ rfl
  have q4 := hcl 4 _ rfl
  rw [Nat.add_zero] at q0
  obtain ⟨A, cd, hvd, _, _, hsm, hlie⟩ := hdat
  obtain ⟨⟨k, l, st, d, f⟩, q⟩ := x
  simp only at q0 q1 q2 q3 q4 hvd hsm hlie ⊢
  subst hvd
  have hsz : (w.alloc (.cells #[.int .i64 0, .int .i64 0, .int .i64 0, .slice none 0 0, .int .i64 0] 35)).heap.size = w.heap.size + 1 := by simp
  have HSZ := Lib.hid hsz
  have HC := Lib.hid (Copy_any ⟨k, l, st, d, f⟩ A d.length cd _ _ hsm (hlie.bytes (fun b hb => hr.d_lt b hb)) (Nat.le_refl _))
  have hi1 : ¬ (i : Int) < tl all := by omega
  have hi2 : ¬ (all.length : Int) ≤ i := by omega
  clear h hr hb hv hcl hlie hcm hx hsz
  generalize tl all = t at *
  generalize all.length = n at *
  go_enter Try.func38, Try.ntmps38
  go_wp2_with fail
  refine HT.out.mono ?_
  rintro e w2 ⟨rfl, hw⟩
  subst w2
  go_wp2_with fail
  refine HH.out.mono ?_
  rintro e w2 ⟨rfl, hw⟩
  subst w2
  go_wp2_with fail
  refine HC.out.mono ?_
  rintro e w3 ⟨v3, rfl, ho, hb⟩
  obtain ⟨A3, c3, rfl, _⟩ := ho.span
  replace H2 := Lib.hid (H2.out.below hb)
  replace HB := Lib.hid (below_on HB.out hb HB.out.size)
  have HO : Hid (Own w3 (w.heap.size + 1) 5 (.slice A3 d.length c3) d) := Lib.hid (by rw [← HSZ.out]; exact ho)
  clear ho hb HC q0 q1 q2 q3 q4 hc1
  obtain ⟨d0, d1, d2, d3, d4⟩ := H2.out.cells
  obtain ⟨f0, f1, f2, f3, f4⟩ := H2.out.free
  go_wp2
  clear f0 f1 f2 f3 f4 d0 d1 d2 d3 d4
  have hP := H2.out.set (.int .i64 k) (.int .i64 l) (.int .i64 st) (.slice A3 d.length c3) (.int .i64 f)
  have HX := Lib.hid (below_set5 HB.out (Nat.le_refl _) (.int .i64 k) (.int .i64 l) (.int .i64 st) (.slice A3 d.length c3) (.int .i64 f))
  have HK : Hid (∀ b, w.heap.size + 1 ≤ b → (((((w3.setCell ⟨w.heap.size, 0, none⟩ (.int .i64 k)).setCell ⟨w.heap.size, 1, none⟩ (.int .i64 l)).setCell ⟨w.heap.size, 2, none⟩ (.int .i64 st)).setCell ⟨w.heap.size, 3, none⟩ (.slice A3 d.length c3)).setCell ⟨w.heap.size, 4, none⟩ (.int .i64 f)).heap[b]? = w3.heap[b]?) := Lib.hid (fun b hb => other_set5 (by omega) _ _ _ _ _)
  clear H2 HB
  generalize World.setCell _ _ _ = Y at hP HX HK ⊢
  obtain ⟨P0, P1, P2, P3, P4⟩ := hP.cells
  refine bodyPost_ret (v := .tuple #[slotV ⟨k, l, st, d, f⟩ (.slice A3 d.length c3), .int .i64 0]) ?_ rfl ⟨_, rfl, ?_, HX.out⟩
  · simp [results, Try.results38, go_sem, P0, P1, P2, P3, P4]
  · exact (HO.out.keep fun b hb => HK.out b (HO.out.block b hb)).le (by omega)
end
end Go.Proofs.Ytecmmihobojjpaa.RingRef
