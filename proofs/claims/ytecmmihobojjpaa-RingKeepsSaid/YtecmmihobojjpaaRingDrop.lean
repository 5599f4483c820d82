/-
  What package ring's 'drop' does: the slots go ahead of which nothing is left to be done.
-/
import Derived.Test.YtecmmihobojjpaaRingApply
import Derived.Deep.RegionWith
namespace Go.Proofs.Ytecmmihobojjpaa.RingPkg
open Go.RowKit Ring
set_option maxRecDepth 4000

/-- The first ones gone. -/
theorem Rng.cut {w w2 : World} {P : Pl} {size t : Int} {rs : List Row} (h : Rng w P size t rs) {b n c m : Nat} (hv : P.v = .slice (some ⟨b, 0, none⟩) n c) (j : Nat) (hrow : OwnR w2 0 66 6 (.slice (some ⟨b, 0, none⟩) m c) ((rs.map Row.cells).drop j)) (hg : w.grownBy w2 (some b)) :
    Rng (w2.setCell ⟨P.g, 2, none⟩ (.slice (some ⟨b, 0, none⟩) m c)) { P with v := .slice (some ⟨b, 0, none⟩) m c } size t (rs.drop j) ∧ Turn P.own P.own w (w2.setCell ⟨P.g, 2, none⟩ (.slice (some ⟨b, 0, none⟩) m c)) := by
  have hvb : P.v.ownBlock = some b := by rw [hv]; rfl
  have hbg : b ≠ P.g := fun e => h.g_v (by rw [hvb, e])
  have hh : w2.heap[P.g]? = some (.cells #[.int .i64 size, .int .i64 t, P.v] 58 (0, 0)) := by rw [hg.block P.g h.g_lt (fun e => hbg (by injection e with e; exact e.symm))]; exact h.head
  have gs := grown_setCell w2 ⟨P.g, 2, none⟩ (.slice (some ⟨b, 0, none⟩) m c)
  have hk : ∀ k, k ≠ P.g → (w2.setCell ⟨P.g, 2, none⟩ (.slice (some ⟨b, 0, none⟩) m c)).heap[k]? = w2.heap[k]? := fun k hn => Below.heap_setCell _ _ _ _ hn
  have hsz : w.heap.size ≤ w2.heap.size := hg.size
  refine ⟨⟨by simp [World.setCell, Array.getElem?_modify, hh], ?_, fun r hr => ?_, fun e => hbg (by injection e), h.g_d, fun k hkb => ?_, fun k hkd => ?_⟩, ?_⟩
  · rw [List.map_drop]
    exact hrow.keep fun k hkb => hk k (fun e => hbg (by injection hkb with hkb; rw [← e, ← hkb]))
  · refine (h.data r (List.mem_of_mem_drop hr)).keep (fun _ h => h) (fun k hkd => ?_)
    rw [hk k (fun e => h.g_d (by rw [← e]; exact hkd)), hg.block k (h.d_lt k hkd) (fun e => h.v_d b hvb (by injection e with e; rw [← e]; exact hkd))]
  · injection hkb with hkb
    rw [← hkb]
    exact h.v_d b hvb
  · have := h.d_lt k hkd
    simp
    omega
  · exact (Turn.of_grown hg (Pl.own_v hv)).trans (Turn.of_grown gs (.inl rfl))

theorem Rng.grown2 {w w2 : World} {P : Pl} {size t : Int} {rs : List Row} (h : Rng w P size t rs) {b : Nat} (hbg : b ≠ P.g) (hg : w.grownBy w2 (some b)) : w2.frozen? ⟨P.g, 2, none⟩ = false ∧ w2.frozen? ⟨P.g, 1, none⟩ = false ∧ w2.cell? ⟨P.g, 2, none⟩ = some P.v ∧ w2.cell? ⟨P.g, 1, none⟩ = some (.int .i64 t) := by
  have hh : w2.heap[P.g]? = some (.cells #[.int .i64 size, .int .i64 t, P.v] 58 (0, 0)) := by rw [hg.block P.g h.g_lt (fun e => hbg (by injection e with e; exact e.symm))]; exact h.head
  simp [World.frozen?, World.cell?, hh]

theorem own_cut {P : Pl} {b n c m c2 : Nat} (hv : P.v = .slice (some ⟨b, 0, none⟩) n c) : ∀ k, (Pl.own { P with v := .slice (some ⟨b, 0, none⟩) m c2 } k) → P.own k := by
  rintro k (hk | hk | hk)
  · exact .inl hk
  · exact .inr (.inl (by rw [hv]; exact hk))
  · exact .inr (.inr hk)

theorem Rng.cut_tail {w w2 : World} {P : Pl} {size t : Int} {rs : List Row} (h : Rng w P size t rs) {b n c m : Nat} (hv : P.v = .slice (some ⟨b, 0, none⟩) n c) (j : Nat) (t' : Int) (hrow : OwnR w2 0 66 6 (.slice (some ⟨b, 0, none⟩) m c) ((rs.map Row.cells).drop j)) (hg : w.drew.grownBy w2 (some b)) {w0 : World} (hT : Turn P.own P.own w0 w) :
    ∃ P' : Pl, P'.g = P.g ∧ Rng ((w2.setCell ⟨P.g, 2, none⟩ (.slice (some ⟨b, 0, none⟩) m c)).setCell ⟨P.g, 1, none⟩ (.int .i64 t')) P' size t' (rs.drop j) ∧ Turn P.own P'.own w0 ((w2.setCell ⟨P.g, 2, none⟩ (.slice (some ⟨b, 0, none⟩) m c)).setCell ⟨P.g, 1, none⟩ (.int .i64 t')) := by
  obtain ⟨h1, h2⟩ := h.drew.cut hv j hrow hg
  have hd : Turn P.own P.own w w.drew := Turn.of_below _ (Below.refl w.heap.size w).drew
  have h3 := ((hT.trans hd).trans h2).trans (Turn.of_grown (O := P.own) (grown_setCell _ ⟨P.g, 1, none⟩ (.int .i64 t')) (.inl rfl))
  exact ⟨{ P with v := .slice (some ⟨b, 0, none⟩) m c }, rfl, h1.set_tail t', h3.widen fun k hk => .inl (own_cut hv k hk)⟩

theorem cells_one (r : Row) (h : ∃ A n c, r.v = .slice A n c) : ∀ u ∈ r.cells, u.oneCell' = true := by
  obtain ⟨A, n, c, h⟩ := h
  intro u hu
  simp only [Row.cells, h, List.mem_cons, List.not_mem_nil, or_false] at hu
  rcases hu with rfl | rfl | rfl | rfl | rfl | rfl <;> rfl

/-- Delete, whichever number. -/
theorem Delete_any {w : World} {P : Pl} {size t : Int} {rs : List Row} (h : Rng w P size t rs) {b c : Nat} (hv : P.v = .slice (some ⟨b, 0, none⟩) rs.length c) (j : Nat) (hj : j ≤ rs.length) :
    Calls Try.prog 52 #[.slice (some ⟨b, 0, none⟩) rs.length c, .int .i64 0, .int .i64 j] w fun e w' => ∃ m, e = .returned (.slice (some ⟨b, 0, none⟩) m c) ∧ OwnR w' 0 66 6 (.slice (some ⟨b, 0, none⟩) m c) ((rs.map Row.cells).drop j) ∧ w.grownBy w' (some b) := by
  have hrow := h.rows
  rw [hv] at hrow
  rcases Nat.eq_zero_or_pos j with rfl | h0
  · obtain ⟨A, c', hv', h1, h2, _⟩ := h.slice
    rw [hv] at hv'
    injection hv' with e1 e2 e3
    subst e3
    refine (Delete_none b rs.length c w h1 h2).mono ?_
    rintro e w' ⟨rfl, rfl⟩
    exact ⟨_, rfl, by rw [List.drop_zero]; exact hrow, World.grownBy.refl _ _⟩
  · have hl : rs.length = (rs.map Row.cells).length := by rw [List.length_map]
    rw [hl] at hrow ⊢
    refine (Delete_some b c j _ w hrow (fun r hr => ?_) h0 (by rw [← hl]; exact hj)).mono ?_
    · obtain ⟨r0, hr0, rfl⟩ := List.mem_map.1 hr
      exact cells_one r0 (by obtain ⟨A, c, hv, _⟩ := h.data r0 hr0; exact ⟨_, _, _, hv⟩)
    · rintro e w' ⟨rfl, h1, h2⟩
      exact ⟨_, rfl, h1, h2⟩

/-- How many stand ahead of the first that is left. -/
def lead (rs : List Row) : Nat := (sel leftB rs).headD rs.length

theorem lead_le (rs : List Row) : lead rs ≤ rs.length := by
  unfold lead
  cases h : sel leftB rs with
  | nil => exact Nat.le_refl _
  | cons j l => exact Nat.le_of_lt (sel_lt leftB rs j (by rw [h]; simp))

set_option maxHeartbeats 2000000 in
theorem drop_any {w : World} {P : Pl} {size t : Int} {rs : List Row} (h : Rng w P size t rs) (h0 : 0 ≤ t) (h1 : t + rs.length ≤ 1000000000000) (hne : 0 < rs.length) :
    Calls Try.prog 44 #[ptr P.g] w fun e w' => ∃ P', P'.g = P.g ∧ e = .returned (.tuple #[]) ∧ Rng w' P' size (t + lead rs) (rs.drop (lead rs)) ∧ Turn P.own P'.own w w' := by
  obtain ⟨A, c, hv, hnc, hcm, hA⟩ := h.slice
  obtain ⟨b, rfl, hbl, hbg⟩ := hA hne
  have hjl := lead_le rs
  obtain ⟨j, hj⟩ : ∃ j, j = lead rs := ⟨_, rfl⟩
  have HJ := Lib.hid hj
  rw [← hj] at hjl ⊢
  have HR := Lib.hid h
  have HV := Lib.hid hv
  have HH := Lib.hid (Head_any h h0 h1)
  have hw : IntKind.i64.wrap ((j : Int) + t - t) = (j : Int) := by rw [kwrap_is (by omega) (by omega)]; omega
  have hw3 : IntKind.i64.wrap (t + (rs.length : Int) - t) = (rs.length : Int) := by rw [kwrap_is (by omega) (by omega)]; omega
  obtain ⟨n, hn⟩ : ∃ n, n = rs.length := ⟨_, rfl⟩
  rw [← hn] at h1 hne hnc hjl HH hw3
  have HN := Lib.hid hn
  clear h hv hA hj hn
  go_enter Try.func44, Try.ntmps44
  go_wp2_with fail
  refine HH.out.mono ?_
  rintro e w2 ⟨rfl, k, hk⟩
  have hb : Below w.heap.size w w2 := by rw [hk]; exact below_draws (Below.refl _ _) k
  replace HR := Lib.hid (HR.out.below hb)
  have HB := Lib.hid hb
  clear hk hb HH
  go_wp2_with fail
  refine (positions_left leftB HR.out h0 (by rw [← HN.out]; exact h1) 1 (fun r hr w1 hb => isLeft_any r w1 (by obtain ⟨A, c, hv, _⟩ := HR.out.data r hr; exact ⟨_, _, _, hv⟩))).mono ?_
  rintro e w3 ⟨u, rfl, ho, hb⟩
  replace HR := Lib.hid (HR.out.below hb)
  replace HB := Lib.hid (below_on HB.out hb HB.out.size)
  clear hb
  have hT1 := Turn.of_below P.own HB.out
  cases hs : sel leftB rs with
  | nil =>
    have HJN : Hid (j = n) := Lib.hid (by rw [HJ.out, HN.out, lead, hs]; rfl)
    rw [hs] at ho
    obtain ⟨A2, m, c2, rfl⟩ := ho.form
    obtain rfl : 0 = m := ho.len
    have HT1 := Lib.hid hT1
    clear ho hs hT1
    obtain ⟨_, c1, c2'⟩ := HR.out.cells
    rw [HV.out, ← HN.out] at c2'
    go_upto_region 4 with fail
    have HDEL : Hid (∀ X, Rng X P size t rs → Calls Try.prog 52 #[.slice (some ⟨b, 0, none⟩) n c, .int .i64 0, .int .i64 n] X fun e w' => ∃ m, e = .returned (.slice (some ⟨b, 0, none⟩) m c) ∧ OwnR w' 0 66 6 (.slice (some ⟨b, 0, none⟩) m c) ((rs.map Row.cells).drop n) ∧ X.grownBy w' (some b)) := Lib.hid (fun X hX => by
      have hd := Delete_any hX (b := b) (c := c) HV.out n (by rw [HN.out]; exact Nat.le_refl _)
      rw [← HN.out] at hd
      exact hd)
    go_region_with (go_at_call 52; refine (HDEL.out _ HR.out.drew).mono ?_; rintro e w4 ⟨m, rfl, hrow, hgr⟩; have HROW := Lib.hid hrow; have HGR := Lib.hid hgr; obtain ⟨f4, f5, g4, g5⟩ := HR.out.drew.grown2 hbg hgr; rw [HV.out, ← HN.out] at g4; clear hrow hgr)
    all_goals
      go_wp2
      go_end0
      obtain ⟨P', e1, e2, e3⟩ := HR.out.cut_tail HV.out n (t + n) HROW.out HGR.out HT1.out
      exact ⟨P', e1, rfl, by rw [HJN.out]; exact e2, e3⟩
  | cons j0 l =>
    have HJN : Hid (j = j0) := Lib.hid (by rw [HJ.out, lead, hs]; rfl)
    obtain rfl : j = j0 := HJN.out
    rw [hs, show ((j :: l).take (Int.toNat 1)) = [j] from rfl] at ho
    obtain ⟨A2, m, c2, rfl⟩ := ho.form
    obtain rfl : 1 = m := ho.len
    obtain ⟨g2, rfl, _, hg2⟩ := ho.first (by omega)
    have q0 := (ho.cell (i := 0) (z := (j : Int) + t) rfl).1
    obtain ⟨z, hz⟩ : ∃ z, z = (j : Int) + t := ⟨_, rfl⟩
    rw [← hz] at q0 hw
    have HZ := Lib.hid hz
    have hz0 : 0 ≤ z := by omega
    have hz1 : z ≤ 1000000000000 := by omega
    have HT1 := Lib.hid hT1
    clear ho hs hT1 HJN hz
    obtain ⟨_, c1, c2'⟩ := HR.out.cells
    rw [HV.out, ← HN.out] at c2'
    go_upto_region 4 with fail
    have HDEL : Hid (∀ X, Rng X P size t rs → Calls Try.prog 52 #[.slice (some ⟨b, 0, none⟩) n c, .int .i64 0, .int .i64 j] X fun e w' => ∃ m, e = .returned (.slice (some ⟨b, 0, none⟩) m c) ∧ OwnR w' 0 66 6 (.slice (some ⟨b, 0, none⟩) m c) ((rs.map Row.cells).drop j) ∧ X.grownBy w' (some b)) := Lib.hid (fun X hX => by
      have hd := Delete_any hX (b := b) (c := c) HV.out j (by rw [← HN.out]; exact hjl)
      rw [← HN.out] at hd
      exact hd)
    go_region_with (go_at_call 52; refine (HDEL.out _ HR.out.drew).mono ?_; rintro e w4 ⟨m, rfl, hrow, hgr⟩; have HROW := Lib.hid hrow; have HGR := Lib.hid hgr; obtain ⟨f4, f5, g4, g5⟩ := HR.out.drew.grown2 hbg hgr; rw [HV.out, ← HN.out] at g4; clear hrow hgr)
    all_goals
      go_wp2
      go_end0
      obtain ⟨P', e1, e2, e3⟩ := HR.out.cut_tail HV.out j z HROW.out HGR.out HT1.out
      exact ⟨P', e1, rfl, by rw [Int.add_comm, ← HZ.out]; exact e2, e3⟩

/-- Done's operation: the slot is done, and what can go goes. -/
theorem set_done {w : World} {P : Pl} {size t : Int} {rs : List Row} (h : Rng w P size t rs) (h0 : 0 ≤ t) (h1 : t + rs.length ≤ 1000000000000) (i b n c B : Nat) (r : Row) (hr : rs[i]? = some r) (hv : P.v = .slice (some ⟨b, 0, none⟩) n c) (hB : w.cell? ⟨B, 0, none⟩ = some (ptr P.g)) (hBo : ¬ P.own B) :
    Calls Try.prog 43 #[.pointer (some ⟨b, i * 6, none⟩), .pointer (some ⟨B, 0, none⟩)] w fun e w' => e = .returned (.tuple #[]) ∧ ∃ P', P'.g = P.g ∧ Rng w' P' size (t + lead (rs.modify i (Row.out 2))) ((rs.modify i (Row.out 2)).drop (lead (rs.modify i (Row.out 2)))) ∧ Turn P.own P'.own w w' := by
  have hl := (List.getElem?_eq_some_iff.1 hr).1
  obtain ⟨b', c', hv', _, _, _, _, hcl⟩ := h.at_ hr
  rw [hv] at hv'
  injection hv' with e1 e2 e3
  injection e1 with e1
  injection e1 with e1
  subst e1 e3
  obtain ⟨q5, f5⟩ := hcl 5 _ rfl
  have hs := h.set_state (i := i) hv 2
  have HD := Lib.hid (drop_any hs h0 (by rw [List.length_modify]; exact h1) (by rw [List.length_modify]; omega))
  have HT := Lib.hid (Turn.of_grown (grown_setCell w ⟨b, i * 6 + 5, none⟩ (.int .i64 2)) (Pl.own_v hv))
  have hbB : ¬ B = b := fun e => hBo (by rw [e]; exact Pl.own_v hv)
  have hBB : (w.setCell ⟨b, i * 6 + 5, none⟩ (.int .i64 2)).cell? ⟨B, 0, none⟩ = some (ptr P.g) := by
    rw [World.cell?_of_block (w := w) (Below.heap_setCell _ _ _ _ hbB)]
    exact hB
  clear hcl h hv e2 hr hs hB
  go_enter Try.func43, Try.ntmps43
  go_wp2_with fail
  refine HD.out.mono ?_
  rintro e w2 ⟨P', hg, rfl, hR, hT⟩
  have HEND := Lib.hid (And.intro hR (HT.out.trans hT))
  have HG := Lib.hid hg
  clear hg hR hT
  go_wp2
  go_end0
  exact ⟨rfl, P', HG.out, HEND.out⟩

end Go.Proofs.Ytecmmihobojjpaa.RingPkg
