/-
  What the document's ring does, the third part: Done, Back, Take, Find.
-/
import Derived.Test.YtecmmihobojjpaaRingRefB
namespace Go.Proofs.Ytecmmihobojjpaa.RingRef
open Go.RowKit Ring RingPkg
set_option maxRecDepth 4000

section
variable {w : World} {P : Pl} {size : Int} {all : List (Slot × Int)}

theorem Done_none (h : Ref w P size all) (hl : all.length ≤ 1000000) (pos : Int) (hp : ¬ there all pos) : Calls Try.prog 36 #[ptr P.g, .int .i64 pos] w fun e w' => e = .returned (.int .i64 12) ∧ w = w' := by
  have HT := Lib.hid (turn_none h hl pos 2 hp)
  clear h hp
  go_enter Try.func36, Try.ntmps36
  go_wp2_with fail
  refine HT.out.mono ?_
  rintro e w2 ⟨rfl, hw⟩
  subst w2
  go_wp2
  go_ret
  exact ⟨rfl, rfl⟩

theorem Back_none (h : Ref w P size all) (hl : all.length ≤ 1000000) (pos : Int) (hp : ¬ there all pos) : Calls Try.prog 37 #[ptr P.g, .int .i64 pos] w fun e w' => e = .returned (.int .i64 12) ∧ w = w' := by
  have HT := Lib.hid (turn_none h hl pos 0 hp)
  clear h hp
  go_enter Try.func37, Try.ntmps37
  go_wp2_with fail
  refine HT.out.mono ?_
  rintro e w2 ⟨rfl, hw⟩
  subst w2
  go_wp2
  go_ret
  exact ⟨rfl, rfl⟩

theorem Done_state (h : Ref w P size all) (hl : all.length ≤ 1000000) (i : Nat) (x : Slot × Int) (hi : tl all ≤ i) (hx : all[i]? = some x) (hq : x.2 ≠ 1) : Calls Try.prog 36 #[ptr P.g, .int .i64 i] w fun e w' => e = .returned (.int .i64 13) ∧ w = w' := by
  have HT := Lib.hid ((turn_in h hl i x 2 hi hx).mono fun e w' he => he.1 hq)
  clear h hi hx hq
  go_enter Try.func36, Try.ntmps36
  go_wp2_with fail
  refine HT.out.mono ?_
  rintro e w2 ⟨rfl, hw⟩
  subst w2
  go_wp2
  go_ret
  exact ⟨rfl, rfl⟩

theorem Back_state (h : Ref w P size all) (hl : all.length ≤ 1000000) (i : Nat) (x : Slot × Int) (hi : tl all ≤ i) (hx : all[i]? = some x) (hq : x.2 ≠ 1) : Calls Try.prog 37 #[ptr P.g, .int .i64 i] w fun e w' => e = .returned (.int .i64 13) ∧ w = w' := by
  have HT := Lib.hid ((turn_in h hl i x 0 hi hx).mono fun e w' he => he.1 hq)
  clear h hi hx hq
  go_enter Try.func37, Try.ntmps37
  go_wp2_with fail
  refine HT.out.mono ?_
  rintro e w2 ⟨rfl, hw⟩
  subst w2
  go_wp2
  go_ret
  exact ⟨rfl, rfl⟩

theorem Done_ok (h : Ref w P size all) (hl : all.length ≤ 1000000) (i : Nat) (x : Slot × Int) (hi : tl all ≤ i) (hx : all[i]? = some x) (hq : x.2 = 1) : Calls Try.prog 36 #[ptr P.g, .int .i64 i] w fun e w' => e = .returned (.int .i64 0) ∧ Ref w' P size (all.modify i (out 2)) ∧ Turn P.own P.own w w' := by
  have HT := Lib.hid ((turn_in h hl i x 2 hi hx).mono fun e w' he => he.2 hq)
  clear h hi hx hq
  go_enter Try.func36, Try.ntmps36
  go_wp2_with fail
  refine HT.out.mono ?_
  rintro e w2 ⟨rfl, hE⟩
  have HE := Lib.hid hE
  clear hE
  go_wp2
  go_ret
  exact ⟨rfl, HE.out⟩

theorem Back_ok (h : Ref w P size all) (hl : all.length ≤ 1000000) (i : Nat) (x : Slot × Int) (hi : tl all ≤ i) (hx : all[i]? = some x) (hq : x.2 = 1) : Calls Try.prog 37 #[ptr P.g, .int .i64 i] w fun e w' => e = .returned (.int .i64 0) ∧ Ref w' P size (all.modify i (out 0)) ∧ Turn P.own P.own w w' := by
  have HT := Lib.hid ((turn_in h hl i x 0 hi hx).mono fun e w' he => he.2 hq)
  clear h hi hx hq
  go_enter Try.func37, Try.ntmps37
  go_wp2_with fail
  refine HT.out.mono ?_
  rintro e w2 ⟨rfl, hE⟩
  have HE := Lib.hid hE
  clear hE
  go_wp2
  go_ret
  exact ⟨rfl, HE.out⟩

set_option maxHeartbeats 2000000 in
theorem Take_any (h : Ref w P size all) (hl : all.length ≤ 1000000) (n : Int) :
    Calls Try.prog 35 #[ptr P.g, .int .i64 n] w fun e w' => ∃ u, e = .returned u ∧ OwnI w' w.heap.size 3 u (nums ((sel (isQ 0) all).take n.toNat)) ∧ Ref w' P size (Ring.mark (out 1) ((sel (isQ 0) all).take n.toNat) all) ∧ Turn P.own P.own w w' := by
  have HLT := Lib.hid h.lt
  have HR := Lib.hid h
  obtain ⟨A, c, hv, hnc, hcm⟩ := h.states
  have HV := Lib.hid hv
  have hc63 : c ≤ 9223372036854775807 := hcm
  obtain ⟨N, hn⟩ : ∃ N, N = all.length := ⟨_, rfl⟩
  rw [← hn] at hnc hl HV
  have HN := Lib.hid hn
  clear h hv hcm hn
  go_enter Try.func35, Try.ntmps35
  go_wp2
  go_loopw [5, 6] (fun x i wr => ∃ k : Nat, k ≤ N ∧ i = .int .i64 k ∧ OwnI wr w.heap.size 3 x (nums (sel (isQ 0) (all.take k))) ∧ (sel (isQ 0) (all.take k)).length ≤ n.toNat ∧ Ref wr P size (Ring.mark (out 1) (sel (isQ 0) (all.take k)) all) ∧ Turn P.own P.own w wr) (fun _ i _ => N - (intOf i).toNat)
  case atStart => exact ⟨0, by omega, rfl, ownI_nil _ _ _, by simp [sel], by simpa [sel, Ring.mark] using HR.out, Turn.refl _ _⟩
  case round =>
    obtain ⟨k, hk, rfl, ho, hlen, hr, ht⟩ := hrel
    have HO := Lib.hid ho
    replace HR := Lib.hid hr
    have HT := Lib.hid ht
    have hf : (sel (isQ 0) (all.take k)).length ≤ k := Nat.le_trans (sel_len _ _) (List.length_take_le _ _)
    obtain ⟨A2, m, c2, rfl⟩ := ho.form
    have hm : m = (sel (isQ 0) (all.take k)).length := by have := ho.len; rw [nums_len] at this; exact this.symm
    have HM := Lib.hid hm
    rw [← hm] at hlen hf
    obtain ⟨_, _, c2'⟩ := hr.cells
    rw [HV.out] at c2'
    clear ho hm hr ht
    by_cases hgo : k < N ∧ (m : Int) < n
    · obtain ⟨hlt, hmn⟩ := hgo
      obtain ⟨x, hx⟩ : ∃ x, all[k]? = some x := ⟨_, List.getElem?_eq_getElem (by rw [← HN.out]; exact hlt)⟩
      have hxm : (Ring.mark (out 1) (sel (isQ 0) (all.take k)) all)[k]? = some x := by
        rw [mark_out _ _ _ _ (fun hm => ?_)]
        · exact hx
        · have := sel_lt (isQ 0) (all.take k) k hm
          simp at this
          omega
      obtain ⟨b, cb, hv', _, _, hbl, _, q0, f0⟩ := HR.out.state hxm
      rw [HV.out] at hv'
      injection hv' with e1 e2 e3
      subst e1
      have hst := sel_take (isQ 0) all k x hx
      by_cases hq : x.2 = 0
      · have HST : Hid (sel (isQ 0) (all.take (k + 1)) = sel (isQ 0) (all.take k) ++ [k]) := Lib.hid (by rw [hst]; simp [isQ, hq])
        have hset := HR.out.set_state (i := k) (b := b) (c := c) (n := N) HV.out 1
        rw [← mark_snoc, ← HST.out] at hset
        have hgs := grown_setCell wr ⟨b, k, none⟩ (.int .i64 1)
        have hub : P.own b := .inr (.inr (.inl (by rw [HV.out]; rfl)))
        have HB1 := Lib.hid hub
        have HO1 : Hid (OwnI (wr.setCell ⟨b, k, none⟩ (.int .i64 1)) w.heap.size 3 (.slice A2 m c2) (nums (sel (isQ 0) (all.take k)))) := Lib.hid (HO.out.keep fun j hj => Below.heap_setCell _ _ _ _ (fun e => by have h1 := HO.out.block j hj; have h2 := HLT.out b hub; simp at e; omega))
        replace HR := Lib.hid hset
        have HT1 := Lib.hid (HT.out.trans (Turn.of_grown (O := P.own) hgs hub))
        have hml : (nums (sel (isQ 0) (all.take k))).length ≤ 1000000000000 := by rw [nums_len, ← HM.out]; omega
        rw [hq] at q0
        clear hst hset hgs hub hx hxm hq e2 e3
        go_upto_region 7 with fail
        refine at_wld ?_
        intro X hX
        rw [← hX] at HO1 HR HT1
        clear hX c2' q0 f0
        have hsz : w.heap.size ≤ X.heap.size := HT1.out.size
        go_wp2_with (at_builtin; refine wpList_append_int X rfl _ _ _ rfl w.heap.size 3 Try.underlying41 infoI (.slice A2 m c2) (nums (sel (isQ 0) (all.take k))) rfl HO1.out (k : Int) rfl hml hsz ?_)
        intro v3 w4 ho3 hg3
        have hb4 : Below w.heap.size X w4 := ((Below.refl w.heap.size X).alloc hsz _).grown hg3 (by simp; omega) HO1.out.block
        have hsz4 : X.heap.size ≤ w4.heap.size := by have := hg3.size; simp at this; omega
        have HR4 := Lib.hid (HR.out.keep hsz4 (fun j hj => hb4.block j (HLT.out j hj)))
        have HT4 : Hid (Turn P.own P.own w w4) := Lib.hid ⟨hb4.os.trans HT1.out.os, hb4.tape.trans HT1.out.tape, hb4.output.trans HT1.out.output, Nat.le_trans hsz hsz4, fun j hj hn => (hb4.block j hj).trans (HT1.out.block j hj hn), fun _ h => .inl h⟩
        have HO4 := Lib.hid ho3
        clear ho3 hg3 hb4 hsz4 hsz hml
        go_wp2
        go_roundw
        case rel =>
          refine ⟨k + 1, by omega, by go_num, by rw [HST.out, nums_snoc]; exact HO4.out, ?_, HR4.out, HT4.out⟩
          rw [HST.out, List.length_append, ← HM.out]
          simp
          omega
        case measure => simp [intOf]; omega
      · have HST : Hid (sel (isQ 0) (all.take (k + 1)) = sel (isQ 0) (all.take k)) := Lib.hid (by rw [hst]; simp [isQ, hq])
        have hqb : (x.2 == 0) = false := by simpa using hq
        have hz1 : ¬ x.2 = 0 := hq
        clear hst hx hxm hq e2 e3
        generalize x.2 = z at q0 hqb hz1
        go_wp2
        go_roundw
        case rel => exact ⟨k + 1, by omega, by go_num, by rw [HST.out]; exact HO.out, by rw [HST.out, ← HM.out]; exact hlen, by rw [HST.out]; exact HR.out, HT.out⟩
        case measure => simp [intOf]; omega
    · have HE : Hid ((sel (isQ 0) all).take n.toNat = sel (isQ 0) (all.take k)) := Lib.hid (by
        by_cases hkN : k < N
        · have hmn : ¬ (m : Int) < n := fun h => hgo ⟨hkN, h⟩
          rw [sel_first (isQ 0) all n.toNat k (by rw [← HM.out]; omega), List.take_of_length_le (by rw [← HM.out]; exact hlen)]
        · have hN : all.length ≤ k := by rw [← HN.out]; omega
          have hf2 : all.take k = all := List.take_of_length_le hN
          have hm2 := HM.out
          rw [hf2] at hm2 ⊢
          exact List.take_of_length_le (by rw [← hm2]; exact hlen))
      have hstop : decide (k < N) = false ∨ (decide (k < N) = true ∧ decide ((m : Int) < n) = false) := by
        by_cases h : k < N
        · exact .inr ⟨by simpa using h, by have : ¬ (m : Int) < n := fun h2 => hgo ⟨h, h2⟩; simpa using this⟩
        · exact .inl (by simpa using h)
      clear hgo
      rcases hstop with h1 | ⟨h1, h2⟩
      all_goals
        go_wp2
        go_ret
        exact ⟨_, rfl, by rw [HE.out]; exact HO.out, by rw [HE.out]; exact HR.out, HT.out⟩
end
end Go.Proofs.Ytecmmihobojjpaa.RingRef
