/-
  What the document's ring does, the second part: Head, Tail, Waiting, Free, turn, Done, Back, Take.
-/
import Derived.Test.YtecmmihobojjpaaRingRefA
namespace Go.Proofs.Ytecmmihobojjpaa.RingRef
open Go.RowKit Ring RingPkg
set_option maxRecDepth 4000

section
variable {w : World} {P : Pl} {size : Int} {all : List (Slot × Int)}

theorem Head_any (h : Ref w P size all) : Calls Try.prog 18 #[ptr P.g] w fun e w' => e = .returned (.int .i64 all.length) ∧ w = w' := by
  obtain ⟨_, hc1, _⟩ := h.cells
  obtain ⟨A, c, hv, _⟩ := h.slots
  rw [hv] at hc1
  clear h hv
  generalize all.length = n at hc1 ⊢
  go_enter Try.func18, Try.ntmps18
  go_wp2
  go_ret
  exact ⟨rfl, rfl⟩

theorem tl_lt {all : All} {k : Nat} {x : Slot × Int} (hx : all[k]? = some x) (hk : k ≤ tl all) (hq : x.2 = 2) : k + 1 ≤ tl all := by
  rcases Nat.lt_or_ge k (tl all) with h | h
  · exact h
  · obtain rfl : k = tl all := by omega
    exact absurd hq (tl_not all x hx)

set_option maxHeartbeats 1000000 in
theorem Tail_any (h : Ref w P size all) (hl : all.length ≤ 1000000) : Calls Try.prog 19 #[ptr P.g] w fun e w' => e = .returned (.int .i64 (tl all)) ∧ w = w' := by
  obtain ⟨_, _, hc2⟩ := h.cells
  obtain ⟨A, c, hv, hnc, hcm⟩ := h.states
  rw [hv] at hc2
  have HV := Lib.hid hv
  have HR := Lib.hid h
  have htl := tl_le all
  have hc63 : c ≤ 9223372036854775807 := hcm
  obtain ⟨n, hn⟩ : ∃ n, n = all.length := ⟨_, rfl⟩
  rw [← hn] at hc2 hnc hl htl
  have HN := Lib.hid hn
  clear h hv hcm hn
  go_enter Try.func19, Try.ntmps19
  go_wp2
  go_loop [3] (fun i => ∃ k : Nat, k ≤ tl all ∧ i = .int .i64 k) (fun i => n - (intOf i).toNat)
  case atStart => exact ⟨0, Nat.zero_le _, rfl⟩
  case round =>
    obtain ⟨k, hk, rfl⟩ := hrel
    by_cases hlt : k < n
    · obtain ⟨x, hx⟩ : ∃ x, all[k]? = some x := ⟨_, List.getElem?_eq_getElem (by rw [← HN.out]; exact hlt)⟩
      obtain ⟨b, c', hv', _, _, _, _, q0, _⟩ := HR.out.state hx
      rw [HV.out] at hv'
      injection hv' with e1 e2 e3
      subst e1
      have hs := tl_lt hx hk
      have hns := tl_done all x
      have HX := Lib.hid hx
      clear hx e2 e3
      by_cases hq : x.2 = 2
      · have hqb : (x.2 == 2) = true := by simpa using hq
        have hk1 := hs hq
        clear hs hns hq
        generalize x.2 = z at q0 hqb
        go_wp2
        go_round
        case rel => exact ⟨k + 1, hk1, by go_num⟩
        case measure => simp [intOf]; omega
      · have hqb : (x.2 == 2) = false := by simpa using hq
        have HK : Hid (k = tl all) := Lib.hid (by
          rcases Nat.lt_or_ge k (tl all) with h | h
          · exact absurd (hns (List.mem_of_getElem? (by rw [List.getElem?_take, if_pos h]; exact HX.out))) hq
          · omega)
        clear hs hns hq
        generalize x.2 = z at q0 hqb
        go_wp2
        go_ret
        exact ⟨by rw [← HK.out]; rfl, rfl⟩
    · have HK : Hid (k = tl all) := Lib.hid (by omega)
      go_wp2
      go_ret
      exact ⟨by rw [← HK.out]; rfl, rfl⟩

set_option maxHeartbeats 1000000 in
theorem Waiting_any (h : Ref w P size all) (hl : all.length ≤ 1000000) : Calls Try.prog 20 #[ptr P.g] w fun e w' => e = .returned (.int .i64 (sel (isQ 0) all).length) ∧ w = w' := by
  obtain ⟨_, _, hc2⟩ := h.cells
  obtain ⟨A, c, hv, hnc, hcm⟩ := h.states
  rw [hv] at hc2
  have HV := Lib.hid hv
  have HR := Lib.hid h
  have hc63 : c ≤ 9223372036854775807 := hcm
  obtain ⟨n, hn⟩ : ∃ n, n = all.length := ⟨_, rfl⟩
  rw [← hn] at hc2 hnc hl
  have HN := Lib.hid hn
  clear h hv hcm hn
  go_enter Try.func20, Try.ntmps20
  go_wp2
  go_loop [3, 4] (fun x i => ∃ k m : Nat, k ≤ n ∧ m ≤ k ∧ m = (sel (isQ 0) (all.take k)).length ∧ i = .int .i64 k ∧ x = .int .i64 m) (fun _ i => n - (intOf i).toNat)
  case atStart => exact ⟨0, 0, Nat.zero_le _, Nat.le_refl _, by simp [sel], rfl, rfl⟩
  case round =>
    obtain ⟨k, m, hk, hmk, hm, rfl, rfl⟩ := hrel
    have HM := Lib.hid hm
    clear hm
    by_cases hlt : k < n
    · obtain ⟨x, hx⟩ : ∃ x, all[k]? = some x := ⟨_, List.getElem?_eq_getElem (by rw [← HN.out]; exact hlt)⟩
      obtain ⟨b, c', hv', _, _, _, _, q0, _⟩ := HR.out.state hx
      rw [HV.out] at hv'
      injection hv' with e1 e2 e3
      subst e1
      have hs := sel_take (isQ 0) all k x hx
      clear hx e2 e3
      by_cases hq : x.2 = 0
      · have hqb : (x.2 == 0) = true := by simpa using hq
        have HS : Hid ((sel (isQ 0) (all.take (k + 1))).length = m + 1) := Lib.hid (by rw [hs, HM.out]; simp [isQ, hq])
        clear hs hq
        generalize x.2 = z at q0 hqb
        go_wp2
        go_round
        case rel => exact ⟨k + 1, m + 1, by omega, by omega, HS.out.symm, by go_num, by go_num⟩
        case measure => simp [intOf]; omega
      · have hqb : (x.2 == 0) = false := by simpa using hq
        have HS : Hid ((sel (isQ 0) (all.take (k + 1))).length = m) := Lib.hid (by rw [hs, HM.out]; simp [isQ, hq])
        clear hs hq
        generalize x.2 = z at q0 hqb
        go_wp2
        go_round
        case rel => exact ⟨k + 1, m, by omega, by omega, HS.out.symm, by go_num, rfl⟩
        case measure => simp [intOf]; omega
    · have HK : Hid ((sel (isQ 0) all).length = m) := Lib.hid (by rw [HM.out, List.take_of_length_le (by rw [← HN.out]; omega)])
      go_wp2
      go_ret
      exact ⟨by rw [HK.out]; rfl, rfl⟩

set_option maxHeartbeats 1000000 in
theorem Free_any (h : Ref w P size all) (hl : all.length ≤ 1000000) (h0 : 0 ≤ size) (h1 : size ≤ 1000000) : Calls Try.prog 21 #[ptr P.g] w fun e w' => e = .returned (.int .i64 (size - all.length + tl all)) ∧ ∃ k, w' = w.drewN k := by
  obtain ⟨hc0, _, _⟩ := h.cells
  have htl := tl_le all
  have HH := Lib.hid (show ∀ j, Calls Try.prog 18 #[ptr P.g] (w.drewN j) fun e w' => e = .returned (.int .i64 all.length) ∧ ∃ k, w' = (w.drewN j).drewN k from fun j => (Head_any (w := w.drewN j) (h.keep (Nat.le_refl _) (fun _ _ => rfl))).mono fun e w' he => ⟨he.1, 0, he.2.symm⟩)
  have HT := Lib.hid (show ∀ j, Calls Try.prog 19 #[ptr P.g] (w.drewN j) fun e w' => e = .returned (.int .i64 (tl all)) ∧ ∃ k, w' = (w.drewN j).drewN k from fun j => (Tail_any (w := w.drewN j) (h.keep (Nat.le_refl _) (fun _ _ => rfl)) hl).mono fun e w' he => ⟨he.1, 0, he.2.symm⟩)
  have hw1 : IntKind.i64.wrap (size - all.length) = size - all.length := kwrap_is (by omega) (by omega)
  have hw2 : IntKind.i64.wrap (size - all.length + tl all) = size - all.length + tl all := kwrap_is (by omega) (by omega)
  clear h
  generalize all.length = n at *
  generalize tl all = t at *
  go_enter Try.func21, Try.ntmps21
  go_wp2
  go_quiet (first
    | (go_at_call 18; refine Calls.quiet_of (HH.out _))
    | (go_at_call 19; refine Calls.quiet_of (HT.out _)))
  go_wp2
  go_ret
  exact ⟨rfl, _, rfl⟩

/-- A state laid anew. -/
theorem Ref.set_state (h : Ref w P size all) {b c n i : Nat} (hv : P.u = .slice (some ⟨b, 0, none⟩) n c) (q : Int) : Ref (w.setCell ⟨b, i, none⟩ (.int .i64 q)) P size (all.modify i (out q)) := by
  have hg := grown_setCell w ⟨b, i, none⟩ (.int .i64 q)
  have hu2 : P.u.ownBlock = some b := by rw [hv]; rfl
  have hk : ∀ k, k ≠ b → (w.setCell ⟨b, i, none⟩ (.int .i64 q)).heap[k]? = w.heap[k]? := fun k hn => Below.heap_setCell _ _ _ _ hn
  obtain ⟨vs, e, h1, h2⟩ := h.rows
  have hz : List.zipWith (fun x v => scells x.1 v) (all.modify i (out q)) vs = List.zipWith (fun x v => scells x.1 v) all vs := by
    apply List.ext_getElem?
    intro j
    rw [List.getElem?_zipWith, List.getElem?_zipWith, List.getElem?_modify]
    cases all[j]? with
    | none => rfl
    | some x =>
      by_cases hij : i = j
      · cases vs[j]? <;> simp [hij, out]
      · simp [hij]
  have hi := h.ints
  rw [hv] at hi
  have hset := hi.set i q
  have hm : (all.map (·.2)).set i q = (all.modify i (out q)).map (·.2) := by
    apply List.ext_getElem?
    intro j
    rw [List.getElem?_set, List.getElem?_map, List.getElem?_map, List.getElem?_modify, List.length_map]
    by_cases hij : i = j
    · subst hij
      rcases Nat.lt_or_ge i all.length with hl | hl
      · simp [hl, out]
      · simp [Nat.not_lt.2 hl]
    · simp [hij]
  rw [hm, ← hv] at hset
  refine ⟨(hk P.g (fun e => h.g_u (by rw [hu2, e]))).trans h.head, ⟨vs, by rw [List.length_modify]; exact e, by rw [hz]; exact h1.keep fun k hkb => hk k (fun e => h.v_u k hkb (by rw [hu2, e])), fun j x v hx hv2 => ?_⟩, hset, h.g_v, h.g_u, h.v_u, h.g_d, h.v_d, h.u_d, fun k hkd => by simpa using h.d_lt k hkd⟩
  rw [List.getElem?_modify] at hx
  cases hx0 : all[j]? with
  | none => rw [hx0] at hx; cases hx
  | some x0 =>
    rw [hx0] at hx
    have hd := (h2 j x0 v hx0 hv2).keep (D' := P.D) (fun _ h => h) (fun k hkd => hk k (fun e => h.u_d b hu2 (by rw [← e]; exact hkd)))
    injection hx with hx
    split at hx
    · rw [← hx]
      exact hd
    · rw [← hx]
      exact hd

theorem turn_none (h : Ref w P size all) (hl : all.length ≤ 1000000) (pos q : Int) (hp : ¬ there all pos) : Calls Try.prog 49 #[ptr P.g, .int .i64 pos, .int .i64 q] w fun e w' => e = .returned (.int .i64 12) ∧ w = w' := by
  have HT := Lib.hid (Tail_any h hl)
  have HH := Lib.hid (Head_any h)
  unfold there at hp
  generalize tl all = t at *
  generalize all.length = n at *
  by_cases h0 : pos < t
  · clear hp h
    go_enter Try.func49, Try.ntmps49
    go_wp2_with fail
    refine HT.out.mono ?_
    rintro e w2 ⟨rfl, hw⟩
    subst w2
    go_wp2
    go_ret
    exact ⟨rfl, rfl⟩
  · have h1 : (n : Int) ≤ pos := by omega
    clear hp h
    go_enter Try.func49, Try.ntmps49
    go_wp2_with fail
    refine HT.out.mono ?_
    rintro e w2 ⟨rfl, hw⟩
    subst w2
    go_wp2_with fail
    refine HH.out.mono ?_
    rintro e w2 ⟨rfl, hw⟩
    subst w2
    go_wp2
    go_ret
    exact ⟨rfl, rfl⟩

theorem turn_in (h : Ref w P size all) (hl : all.length ≤ 1000000) (i : Nat) (x : Slot × Int) (q : Int) (hi : tl all ≤ i) (hx : all[i]? = some x) :
    Calls Try.prog 49 #[ptr P.g, .int .i64 i, .int .i64 q] w fun e w' => (x.2 ≠ 1 → e = .returned (.int .i64 13) ∧ w = w') ∧ (x.2 = 1 → e = .returned (.int .i64 0) ∧ Ref w' P size (all.modify i (out q)) ∧ Turn P.own P.own w w') := by
  have hlt := (List.getElem?_eq_some_iff.1 hx).1
  have HT := Lib.hid (Tail_any h hl)
  have HH := Lib.hid (Head_any h)
  obtain ⟨_, _, hc2⟩ := h.cells
  obtain ⟨b, c, hv, hnc, hcm, _, _, q0, f0⟩ := h.state hx
  rw [hv] at hc2
  have hc63 : c ≤ 9223372036854775807 := hcm
  have HEND := Lib.hid (And.intro (h.set_state (i := i) hv q) (Turn.of_grown (O := P.own) (grown_setCell w ⟨b, i, none⟩ (.int .i64 q)) (.inr (.inr (.inl (by rw [hv]; rfl))))))
  clear h hv hcm hx
  generalize tl all = t at *
  generalize all.length = n at *
  have hi1 : ¬ (i : Int) < t := by omega
  have hi2 : ¬ (n : Int) ≤ i := by omega
  by_cases hq : x.2 = 1
  · have hqb : (x.2 == 1) = true := by simpa using hq
    have HQ := Lib.hid hq
    clear hq
    go_enter Try.func49, Try.ntmps49
    go_wp2_with fail
    refine HT.out.mono ?_
    rintro e w2 ⟨rfl, hw⟩
    subst w2
    go_wp2_with fail
    refine HH.out.mono ?_
    rintro e w2 ⟨rfl, hw⟩
    subst w2
    rw [HQ.out] at q0
    go_wp2
    go_ret
    exact ⟨fun h => absurd HQ.out h, fun _ => ⟨rfl, HEND.out⟩⟩
  · have HQ := Lib.hid hq
    have hqb : (x.2 == 1) = false := by simpa using hq
    clear hq
    obtain ⟨z, hz⟩ : ∃ z, z = x.2 := ⟨_, rfl⟩
    rw [← hz] at q0 hqb
    go_enter Try.func49, Try.ntmps49
    go_wp2_with fail
    refine HT.out.mono ?_
    rintro e w2 ⟨rfl, hw⟩
    subst w2
    go_wp2_with fail
    refine HH.out.mono ?_
    rintro e w2 ⟨rfl, hw⟩
    subst w2
    have hz1 : ¬ z = 1 := by simpa using hqb
    clear hz
    go_wp2
    go_ret
    exact ⟨fun _ => ⟨rfl, rfl⟩, fun h => absurd h HQ.out⟩
end
end Go.Proofs.Ytecmmihobojjpaa.RingRef
