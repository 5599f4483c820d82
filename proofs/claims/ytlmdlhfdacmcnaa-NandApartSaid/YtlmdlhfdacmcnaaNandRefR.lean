/-
  What the document's answer for layer 8 does: Read.
-/
import Derived.Test.YtlmdlhfdacmcnaaNandRefE
namespace Go.Proofs.Ytlmdlhfdacmcnaa.NandRef
open Go.RowKit Nand NandPkg
set_option maxRecDepth 4000

theorem own_later (w : World) (o : Obj) {e : TypeId} : Own ((w.alloc o).alloc (.cells #[] e)) w.heap.size e (.slice (some ⟨w.heap.size + 1, 0, none⟩) 0 0) [] := by
  have h := own_new (w.alloc o) e [] #[] rfl (Nat.zero_le _)
  rw [World.size_alloc] at h
  exact h.le (by omega)

/-- Two empty slices, laid one behind the other: the one that an append leaves alone. -/
theorem second_kept {w w2 : World} {e : TypeId} (hg : ((w.alloc (.cells #[] e)).alloc (.cells #[] e)).drew.grownBy w2 (Value.slice (some ⟨w.heap.size, 0, none⟩) 0 0).ownBlock) : Own w2 w.heap.size e (.slice (some ⟨w.heap.size + 1, 0, none⟩) 0 0) [] :=
  (own_later w (.cells #[] e)).keep fun k hk => by
    simp [Value.ownBlock] at hk
    subst hk
    exact hg.block _ (by simp) (by simp [Value.ownBlock])
theorem first_kept {w w2 : World} {e : TypeId} (hg : ((w.alloc (.cells #[] e)).alloc (.cells #[] e)).drew.grownBy w2 (Value.slice (some ⟨w.heap.size + 1, 0, none⟩) 0 0).ownBlock) : Own w2 w.heap.size e (.slice (some ⟨w.heap.size, 0, none⟩) 0 0) [] :=
  ((own_new w e [] #[] rfl (Nat.zero_le _)).alloc (.cells #[] e)).keep fun k hk => by
    simp [Value.ownBlock] at hk
    subst hk
    exact hg.block _ (by simp; omega) (by simp [Value.ownBlock])
theorem loc_first {w : World} {e : TypeId} {v : Value} (h : v.ownBlock = (Value.slice (some ⟨w.heap.size, 0, none⟩) 0 0).ownBlock ∨ v.ownBlock = some ((w.alloc (.cells #[] e)).alloc (.cells #[] e)).drew.heap.size) : ∀ k, v.ownBlock = some k → k ≠ w.heap.size + 1 := fun k hk e2 => by
  rcases h with h | h <;> rw [hk] at h <;> simp [Value.ownBlock] at h <;> omega
theorem loc_second {w : World} {e : TypeId} {v : Value} (h : v.ownBlock = (Value.slice (some ⟨w.heap.size + 1, 0, none⟩) 0 0).ownBlock ∨ v.ownBlock = some ((w.alloc (.cells #[] e)).alloc (.cells #[] e)).drew.heap.size) : ∀ k, v.ownBlock = some k → k ≠ w.heap.size := fun k hk e2 => by
  rcases h with h | h <;> rw [hk] at h <;> simp [Value.ownBlock] at h <;> omega
theorem own_past {w w2 : World} {base : Nat} {e e2 : TypeId} {v : Value} {xs : List UInt8} (h : Own w base e v xs) (hg : (w.alloc (.cells #[] e2)).grownBy w2 (Value.slice (some ⟨w.heap.size, 0, none⟩) 0 0).ownBlock) : Own w2 base e v xs :=
  (h.alloc (.cells #[] e2)).keep fun k hk => hg.block k (by have := h.lt k hk; simp; omega) (fun e => by have := h.lt k hk; simp [Value.ownBlock] at e; omega)

theorem told_take {evs : List Ev} {k : Nat} {e : Ev} (h : evs[k]? = some e) (u b g : Int) (t : Nat) : told (evs.take (k + 1)) u b g t = if e.meets u b g then e.gives t else told (evs.take k) u b g t := by
  obtain ⟨hl, rfl⟩ := List.getElem?_eq_some_iff.1 h
  rw [List.take_succ_eq_append_getElem hl, told_snoc]

theorem held5_keep {w w' : World} {a b c d f : Addr} {x y z p q : Value} (h : w.cell? a = some x ∧ w.cell? b = some y ∧ w.cell? c = some z ∧ w.cell? d = some p ∧ w.cell? f = some q) (hb : Below w.heap.size w w') : w'.cell? a = some x ∧ w'.cell? b = some y ∧ w'.cell? c = some z ∧ w'.cell? d = some p ∧ w'.cell? f = some q :=
  ⟨cell_stays hb h.1, cell_stays hb h.2.1, cell_stays hb h.2.2.1, cell_stays hb h.2.2.2.1, cell_stays hb h.2.2.2.2⟩

section
variable {G : Shape} {w : World} {P : Pl} {st : St}

theorem read_off (h : Ref G w P st) (hoff : st.off = true) (a : Int) :
    Calls Try.prog 47 #[ptr P.g, .int .i64 a] w fun e w' => e = .returned (.tuple #[.slice none 0 0, .slice none 0 0, .int .i64 5]) ∧ w' = w := by
  have hc := h.cells.2.2.2.2.2.2.1
  rw [hoff] at hc
  clear h hoff
  go_enter Try.func47, Try.ntmps47
  go_wp2
  go_ret3
  exact ⟨rfl, rfl⟩

theorem read_range (hG : G.Ok) (h : Ref G w P st) (hoff : st.off = false) (a : Int) (ha : a < 0 ∨ G.N ≤ a) :
    Calls Try.prog 47 #[ptr P.g, .int .i64 a] w fun e w' => e = .returned (.tuple #[.slice none 0 0, .slice none 0 0, .int .i64 2]) ∧ Below w.heap.size w w' := by
  have hc := h.cells.2.2.2.2.2.2.1
  rw [hoff] at hc
  obtain ⟨⟨h1, h2, h3, h4, h5⟩, _⟩ := h.cells
  have HO := Lib.hid (rof_any hG a 0 0 0 0 2 (fun u b g t hp he => absurd (adr_bd hG hp) (fun hb => by unfold adr at hb; rw [← he] at hb; omega)) (fun _ => ⟨rfl, rfl, rfl, rfl, rfl⟩) w)
  clear h hoff hG
  go_enter Try.func47, Try.ntmps47
  go_wp2_with fail
  refine HO.out.mono ?_
  rintro e w2 ⟨rfl, hb⟩
  have HB := Lib.hid hb
  clear hb
  go_wp2
  go_ret3
  exact ⟨rfl, HB.out.alloc HB.out.size _⟩

set_option maxHeartbeats 3200000 in
theorem read_in (hG : G.Ok) (h : Ref G w P st) (hoff : st.off = false) (u b g t : Int) (hp : Geom.there G.U G.k G.p G.s u b g t) (hJ : P.J ≤ 100000) (evs : List Ev) (hlog : Log w (fun b => P.K b = 7) P.lv evs) (hlen : evs.length ≤ P.J) :
    Calls Try.prog 47 #[ptr P.g, .int .i64 (adr G u b g t)] w fun e w' => (∃ v v' er, e = .returned (.tuple #[v, v', .int .i64 er]) ∧ ((told evs u b g t.toNat = none ∧ er = 6 ∧ Own w' w.heap.size 5 v [] ∧ Own w' w.heap.size 5 v' []) ∨ ∃ x y, told evs u b g t.toNat = some (x, y) ∧ er = 0 ∧ Own w' w.heap.size 5 v x ∧ Own w' w.heap.size 5 v' y)) ∧ Below w.heap.size w w' := by
  have hc := h.cells.2.2.2.2.2.2.1
  rw [hoff] at hc
  obtain ⟨⟨h1, h2, h3, h4, h5⟩, _⟩ := h.cells
  have HO := Lib.hid (rof_any hG (adr G u b g t) u b g t 0 (fun u' b' g' t' hp' he => by
    obtain ⟨rfl, rfl, rfl, rfl⟩ := adr_inj hG hp hp' he
    exact ⟨rfl, rfl, rfl, rfl, rfl⟩) (fun ho => by have := adr_bd hG hp; omega) w)
  obtain ⟨Al, cl, hlv⟩ := hlog.form
  have H := Lib.hid h
  have ht0 : 0 ≤ t := hp.2.2.2.2.2.2.1
  have ht1 : t < 4 := by have := hp.2.2.2.2.2.2.2; have := hG.may.2.2.2.2.2.2.2.2.2; omega
  have hg0 : 0 ≤ g := hp.2.2.2.2.1
  generalize adr G u b g t = a at HO ⊢
  rw [hlv] at hlog
  have HLV := Lib.hid hlv
  have HLOG := Lib.hid hlog
  generalize hnl : evs.length = nl at HLV HLOG hlen hlv
  have HNL := Lib.hid hnl
  clear h hoff hG hp hlog hlv hnl
  go_enter Try.func47, Try.ntmps47
  go_wp2_with fail
  refine HO.out.mono ?_
  rintro e w2 ⟨rfl, hb⟩
  have HB := Lib.hid hb
  have hrf : Ref G (w2.alloc (.cells #[.int .i64 u, .int .i64 b, .int .i64 g, .int .i64 t] 65)) P st := (H.out.below hb).below ((Below.refl _ _).alloc (Nat.le_refl _) _)
  have c6 := hrf.cells.2.2.1
  rw [HLV.out] at c6
  have HPL := Lib.hid (pla_new w2 w2.heap.size rfl 65 u b g t)
  have HR := Lib.hid hrf
  clear hb hrf h1 h2 h3 h4 h5
  have hnli : (nl : Int) ≤ 100000 := by omega
  go_wp2
  go_loopw [9] (fun i wr => ∃ k : Nat, i = .int .i64 ((k : Int) - 1) ∧ k ≤ nl ∧ told evs u b g t.toNat = told (evs.take k) u b g t.toNat ∧ Below (w2.heap.size + 1) (w2.alloc (.cells #[.int .i64 u, .int .i64 b, .int .i64 g, .int .i64 t] 65)) wr) (fun i _ => (intOf i + 1).toNat)
  case atStart => exact ⟨nl, by first | rfl | go_num, by omega, by rw [List.take_of_length_le (by rw [HNL.out]; exact Nat.le_refl _)], Below.refl _ _⟩
  case round =>
    obtain ⟨k, rfl, hk, htold, hbw⟩ := hrel
    have HTO := Lib.hid htold
    have HBW := Lib.hid hbw
    clear htold hbw
    by_cases hlt : 1 ≤ k
    · obtain ⟨i, rfl⟩ : ∃ i, k = i + 1 := ⟨k - 1, by omega⟩
      have e1 : (((i + 1 : Nat) : Int) - 1) = (i : Int) := by omega
      rw [e1]
      obtain ⟨e, he⟩ : ∃ e, evs[i]? = some e := ⟨evs[i]'(by rw [HNL.out]; omega), List.getElem?_eq_getElem (by rw [HNL.out]; omega)⟩
      have hbb : Below w.heap.size w wr := (HB.out.alloc HB.out.size _).trans (HBW.out.mono (Nat.le_succ_of_le HB.out.size))
      have hrf : Ref G wr P st := H.out.below hbb
      have c6 := hrf.cells.2.2.1
      rw [HLV.out] at c6
      have hlg : Log wr (fun b => P.K b = 7) (.slice Al nl cl) evs := HLOG.out.keep (fun b hb => hbb.block b (HLOG.out.lt b hb)) (fun _ h => h) (fun b (hb : P.K b = 7) => hbb.block b (H.out.lt b (own_of P hb (by omega))))
      obtain ⟨gl, A, n, c, A', n', c', rfl, q0, q1, q2, q3, q4, hn, hn', hld, hlo, hnn, _⟩ := hlg.at_ he
      have HTT := Lib.hid (told_take he u b g t.toNat)
      have hs2 : w2.heap.size + 1 ≤ wr.heap.size := by have := HBW.out.size; simp at this; omega
      have HS := Lib.hid hs2
      have hpq : ∀ j v, (w2.alloc (.cells #[.int .i64 u, .int .i64 b, .int .i64 g, .int .i64 t] 65)).cell? ⟨w2.heap.size, j, none⟩ = some v → ∀ o, (wr.alloc o).cell? ⟨w2.heap.size, j, none⟩ = some v := fun j v hv o => by
        rw [World.cell?_of_block (w := wr) (Below.heap_alloc wr o w2.heap.size (by omega)), World.cell?_of_block (w := w2.alloc (.cells #[.int .i64 u, .int .i64 b, .int .i64 g, .int .i64 t] 65)) (HBW.out.block w2.heap.size (Nat.lt_succ_self _))]
        exact hv
      have HLD := Lib.hid hld
      have HLO := Lib.hid hlo
      have HBB := Lib.hid hbb
      obtain ⟨eu, eb, eg, ed, eo⟩ := e
      have p0 := hpq 0 _ HPL.out.1 (.cells #[.int .i64 eu, .int .i64 eb, .int .i64 eg, .slice A n c, .slice A' n' c'] 104)
      have p1 := hpq 1 _ HPL.out.2.1 (.cells #[.int .i64 eu, .int .i64 eb, .int .i64 eg, .slice A n c, .slice A' n' c'] 104)
      have p2 := hpq 2 _ HPL.out.2.2.1 (.cells #[.int .i64 eu, .int .i64 eb, .int .i64 eg, .slice A n c, .slice A' n' c'] 104)
      have p3 := hpq 3 _ HPL.out.2.2.2 (.cells #[.int .i64 eu, .int .i64 eb, .int .i64 eg, .slice A n c, .slice A' n' c'] 104)
      have hinl : (i : Int) < (nl : Int) := by omega
      clear hpq hld hlo hbb hrf hlg he e1
      dsimp only at q0 q1 q2
      by_cases a1 : eu = u
      · have d1 : (eu != u) = false := by simpa using a1
        by_cases a2 : eb = b
        · have d2 : (eb != b) = false := by simpa using a2
          by_cases a3 : eg = -1
          · have d3 : (eg != -1) = false := by simpa using a3
            have HYES : Hid (Ev.meets ⟨eu, eb, eg, ed, eo⟩ u b g) := Lib.hid ⟨a1, a2, Or.inl a3⟩
            clear a1 a2 a3
            by_cases htn : (n : Int) ≤ t
            · have d5 : decide ((n : Int) ≤ t) = true := by simpa using htn
              have HTN := Lib.hid htn
              clear htn
              go_wp2
              go_ret3
              refine ⟨⟨_, _, 6, rfl, Or.inl ⟨?_, rfl, own_none _ _ _, own_none _ _ _⟩⟩, below_then HBB.out ((Below.refl _ _).alloc (Nat.le_refl _) _)⟩
              rw [HTO.out, HTT.out, if_pos HYES.out]
              unfold Ev.gives
              rw [if_neg (by have := HLD.out.1; have := HTN.out; show ¬ t.toNat < ed.length; omega)]
            · have htl : t < (n : Int) := by omega
              have d5 : decide ((n : Int) ≤ t) = false := by simp; omega
              obtain ⟨tt, rfl⟩ : ∃ tt : Nat, t = (tt : Int) := ⟨t.toNat, by omega⟩
              obtain ⟨b1, o1, A1, n1, c1, xs, rfl, _, hc1, hn1, hl1, hx1⟩ := HLD.out.at_ (show tt < n by omega)
              obtain ⟨b2, o2, A2, n2, c2, ys, rfl, _, hc2, hn2, hl2, hx2⟩ := HLO.out.at_ (show tt < n' by omega)
              have htl2 : (tt : Int) < (n' : Int) := by omega
              have k1 : (wr.alloc (.cells #[.int .i64 eu, .int .i64 eb, .int .i64 eg, .slice (some ⟨b1, o1, none⟩) n c, .slice (some ⟨b2, o2, none⟩) n' c'] 104)).cell? ⟨b1, o1 + tt, none⟩ = some (.slice A1 n1 c1) := cell_stays ((Below.refl _ _).alloc (Nat.le_refl _) _) hc1
              have k2 : (wr.alloc (.cells #[.int .i64 eu, .int .i64 eb, .int .i64 eg, .slice (some ⟨b1, o1, none⟩) n c, .slice (some ⟨b2, o2, none⟩) n' c'] 104)).cell? ⟨b2, o2 + tt, none⟩ = some (.slice A2 n2 c2) := cell_stays ((Below.refl _ _).alloc (Nat.le_refl _) _) hc2
              have HX1 := Lib.hid hx1
              have HX2 := Lib.hid hx2
              have HL1 := Lib.hid hl1
              have HL2 := Lib.hid hl2
              clear hx1 hx2 hl1 hl2 hc1 hc2
              go_wp2_with fail
              refine at_wld ?_
              intro X hX
              have x1 : X.cell? ⟨wr.heap.size, 3, none⟩ = some (.slice (some ⟨b1, o1, none⟩) n c) := by rw [hX]; simp
              have x2 : X.cell? ⟨wr.heap.size, 4, none⟩ = some (.slice (some ⟨b2, o2, none⟩) n' c') := by rw [hX]; simp
              have x3 : X.cell? ⟨w2.heap.size, 3, none⟩ = some (.int .i64 (tt : Int)) := by rw [hX]; exact p3
              rw [← hX] at k1 k2
              have hbX : Below wr.heap.size wr X := by rw [hX]; exact (Below.refl _ _).alloc (Nat.le_refl _) _
              have HBX := Lib.hid hbX
              have hwx : ∀ b, P.K b = 7 → b < wr.heap.size := fun b hb => Nat.lt_of_lt_of_le (H.out.lt b (own_of P hb (by omega))) HBB.out.size
              have HR1 := Lib.hid (bytes_more (bytes_keep (HL1.out.bytes hwx) hbX) hbX.size)
              have HR2 := Lib.hid (bytes_more (bytes_keep (HL2.out.bytes hwx) hbX) hbX.size)
              have HXS := Lib.hid (Nat.le_trans HBB.out.size hbX.size)
              have HLN1 := Lib.hid (show ([] : List UInt8).length + n1 ≤ 140737488355328 by simp; omega)
              have HLN2 := Lib.hid (show ([] : List UInt8).length + n2 ≤ 140737488355328 by simp; omega)
              clear hX hbX hwx p0 p1 p2 p3 q0 q1 q2 q3 q4 c6
              go_region_held3 (fun w' => w'.cell? ⟨wr.heap.size, 3, none⟩ = some (.slice (some ⟨b1, o1, none⟩) n c) ∧ w'.cell? ⟨wr.heap.size, 4, none⟩ = some (.slice (some ⟨b2, o2, none⟩) n' c') ∧ w'.cell? ⟨w2.heap.size, 3, none⟩ = some (.int .i64 (tt : Int)) ∧ w'.cell? ⟨b1, o1 + tt, none⟩ = some (.slice A1 n1 c1) ∧ w'.cell? ⟨b2, o2 + tt, none⟩ = some (.slice A2 n2 c2))
                (first
                  | exact ⟨x1, x2, x3, k1, k2⟩
                  | exact held5_keep ⟨x1, x2, x3, k1, k2⟩ hB4
                  | exact held5_keep ⟨x1, x2, x3, k1, k2⟩ (hB3.alloc hB3.size _)
                  | exact held5_keep ⟨x1, x2, x3, k1, k2⟩ hB3
                  | exact held5_keep ⟨x1, x2, x3, k1, k2⟩ ((Below.refl _ _).alloc (Nat.le_refl _) _)
                  | exact held5_keep ⟨x1, x2, x3, k1, k2⟩ (((Below.refl _ _).alloc (Nat.le_refl _) _).alloc (by simp) _)
                  | go_keep)
                (first
                  | (refine step_append_bytes _ (o := ⟨some 80, _, _, _, _, _⟩) (by rfl) _ _ _ (by rfl) X.heap.size 5 Try.underlying47 info8 (.slice (some ⟨X.heap.size, 0, none⟩) 0 0) [] (by rfl) (by exact own_new X _ [] _ rfl (Nat.zero_le _)) X.heap.size A1 n1 c1 xs (by rfl) (by exact bytes_keep HR1.out (((Below.refl _ _).alloc (Nat.le_refl _) _).drew)) HLN1.out (by simp <;> omega) ?_; intro v3 w3 ho3 hg3 hl3; have hB3 : Below X.heap.size X w3 := (((Below.refl _ X).alloc (Nat.le_refl _) _).drew).grown hg3 (by simp) (fun k hk => by simp [Value.ownBlock] at hk; omega); have HO3 := Lib.hid ho3; clear hg3 hl3 ho3)
                  | (refine step_append_bytes _ (o := ⟨some 80, _, _, _, _, _⟩) (by rfl) _ _ _ (by rfl) X.heap.size 5 Try.underlying47 info8 (.slice (some ⟨X.heap.size, 0, none⟩) 0 0) [] (by rfl) (by exact (own_new X _ [] _ rfl (Nat.zero_le _)).alloc _) X.heap.size A1 n1 c1 xs (by rfl) (by exact bytes_keep HR1.out ((((Below.refl _ _).alloc (Nat.le_refl _) _).alloc (by simp) _).drew)) HLN1.out (by simp <;> omega) ?_; intro v3 w3 ho3 hg3 hl3; have hB3 : Below X.heap.size X w3 := ((((Below.refl _ X).alloc (Nat.le_refl _) _).alloc (by simp) _).drew).grown hg3 (by simp; omega) (fun k hk => by simp [Value.ownBlock] at hk; omega); have hq := second_kept hg3; have hv3 := loc_first hl3; have HO3 := Lib.hid ho3; clear hg3 hl3 ho3)
                  | (refine step_append_bytes _ (o := ⟨some 80, _, _, _, _, _⟩) (by rfl) _ _ _ (by rfl) X.heap.size 5 Try.underlying47 info8 (.slice (some ⟨X.heap.size + 1, 0, none⟩) 0 0) [] (by rfl) (by exact own_later X _) X.heap.size A1 n1 c1 xs (by rfl) (by exact bytes_keep HR1.out ((((Below.refl _ _).alloc (Nat.le_refl _) _).alloc (by simp) _).drew)) HLN1.out (by simp <;> omega) ?_; intro v3 w3 ho3 hg3 hl3; have hB3 : Below X.heap.size X w3 := ((((Below.refl _ X).alloc (Nat.le_refl _) _).alloc (by simp) _).drew).grown hg3 (by simp; omega) (fun k hk => by simp [Value.ownBlock] at hk; omega); have hq := first_kept hg3; have hv3 := loc_second hl3; have HO3 := Lib.hid ho3; clear hg3 hl3 ho3)
                  | (refine step_append_bytes _ (o := ⟨some 88, _, _, _, _, _⟩) (by rfl) _ _ _ (by rfl) w3.heap.size 5 Try.underlying47 info8 (.slice (some ⟨w3.heap.size, 0, none⟩) 0 0) [] (by rfl) (by exact own_new w3 _ [] _ rfl (Nat.zero_le _)) X.heap.size A2 n2 c2 ys (by rfl) (by exact bytes_keep HR2.out (hB3.alloc hB3.size _)) HLN2.out (by simp) ?_; intro v4 w4 ho4 hg4 _; have hB4 : Below X.heap.size X w4 := (hB3.alloc hB3.size _).grown hg4 (Nat.le_trans hB3.size (by simp)) (fun k hk => by have := hB3.size; simp [Value.ownBlock] at hk; omega); have HK3 := Lib.hid (own_past HO3.out hg4); have HO4 := Lib.hid (Own.le ho4 hB3.size); clear hg4 ho4)
                  | (refine step_append_bytes _ (o := ⟨some 88, _, _, _, _, _⟩) (by rfl) _ _ _ (by rfl) X.heap.size 5 Try.underlying47 info8 (.slice (some ⟨X.heap.size + 1, 0, none⟩) 0 0) [] (by rfl) (by exact hq) X.heap.size A2 n2 c2 ys (by rfl) (by exact bytes_keep HR2.out hB3) HLN2.out (by exact hB3.size) ?_; intro v4 w4 ho4 hg4 _; have hB4 : Below X.heap.size X w4 := hB3.grown hg4 hB3.size (fun k hk => by simp [Value.ownBlock] at hk; omega); have HK3 := Lib.hid (HO3.out.keep (fun k hk => hg4.block k (HO3.out.lt k hk) (fun e => hv3 k hk (by simpa [Value.ownBlock] using e)))); have HO4 := Lib.hid ho4; clear hg4 ho4)
                  | (refine step_append_bytes _ (o := ⟨some 88, _, _, _, _, _⟩) (by rfl) _ _ _ (by rfl) X.heap.size 5 Try.underlying47 info8 (.slice (some ⟨X.heap.size, 0, none⟩) 0 0) [] (by rfl) (by exact hq) X.heap.size A2 n2 c2 ys (by rfl) (by exact bytes_keep HR2.out hB3) HLN2.out (by exact hB3.size) ?_; intro v4 w4 ho4 hg4 _; have hB4 : Below X.heap.size X w4 := hB3.grown hg4 hB3.size (fun k hk => by simp [Value.ownBlock] at hk; omega); have HK3 := Lib.hid (HO3.out.keep (fun k hk => hg4.block k (HO3.out.lt k hk) (fun e => hv3 k hk (by simpa [Value.ownBlock] using e)))); have HO4 := Lib.hid ho4; clear hg4 ho4))
              all_goals
                rename_i hHeld
                clear hHeld
                go_wp2
                go_ret3
                refine ⟨⟨v3, v4, 0, rfl, Or.inr ⟨xs, ys, ?_, rfl, Own.le HK3.out HXS.out, Own.le HO4.out HXS.out⟩⟩, below_then HBB.out ((HBX.out.trans (hB4.mono HBX.out.size)))⟩
                rw [HTO.out, HTT.out, if_pos HYES.out]
                unfold Ev.gives
                rw [if_pos (by have := HLD.out.1; show ((tt : Int)).toNat < ed.length; omega), Int.toNat_natCast]
                simp only [List.getD_eq_getElem?_getD, HX1.out, HX2.out, Option.getD_some]
          · have d3 : (eg != -1) = true := by simpa using a3
            by_cases a4 : eg = g
            · have d4 : (eg != g) = false := by simpa using a4
              have HYES : Hid (Ev.meets ⟨eu, eb, eg, ed, eo⟩ u b g) := Lib.hid ⟨a1, a2, Or.inr a4⟩
              clear a1 a2 a3 a4
              by_cases htn : (n : Int) ≤ t
              · have d5 : decide ((n : Int) ≤ t) = true := by simpa using htn
                have HTN := Lib.hid htn
                clear htn
                go_wp2
                go_ret3
                refine ⟨⟨_, _, 6, rfl, Or.inl ⟨?_, rfl, own_none _ _ _, own_none _ _ _⟩⟩, below_then HBB.out ((Below.refl _ _).alloc (Nat.le_refl _) _)⟩
                rw [HTO.out, HTT.out, if_pos HYES.out]
                unfold Ev.gives
                rw [if_neg (by have := HLD.out.1; have := HTN.out; show ¬ t.toNat < ed.length; omega)]
              · have htl : t < (n : Int) := by omega
                have d5 : decide ((n : Int) ≤ t) = false := by simp; omega
                obtain ⟨tt, rfl⟩ : ∃ tt : Nat, t = (tt : Int) := ⟨t.toNat, by omega⟩
                obtain ⟨b1, o1, A1, n1, c1, xs, rfl, _, hc1, hn1, hl1, hx1⟩ := HLD.out.at_ (show tt < n by omega)
                obtain ⟨b2, o2, A2, n2, c2, ys, rfl, _, hc2, hn2, hl2, hx2⟩ := HLO.out.at_ (show tt < n' by omega)
                have htl2 : (tt : Int) < (n' : Int) := by omega
                have k1 : (wr.alloc (.cells #[.int .i64 eu, .int .i64 eb, .int .i64 eg, .slice (some ⟨b1, o1, none⟩) n c, .slice (some ⟨b2, o2, none⟩) n' c'] 104)).cell? ⟨b1, o1 + tt, none⟩ = some (.slice A1 n1 c1) := cell_stays ((Below.refl _ _).alloc (Nat.le_refl _) _) hc1
                have k2 : (wr.alloc (.cells #[.int .i64 eu, .int .i64 eb, .int .i64 eg, .slice (some ⟨b1, o1, none⟩) n c, .slice (some ⟨b2, o2, none⟩) n' c'] 104)).cell? ⟨b2, o2 + tt, none⟩ = some (.slice A2 n2 c2) := cell_stays ((Below.refl _ _).alloc (Nat.le_refl _) _) hc2
                have HX1 := Lib.hid hx1
                have HX2 := Lib.hid hx2
                have HL1 := Lib.hid hl1
                have HL2 := Lib.hid hl2
                clear hx1 hx2 hl1 hl2 hc1 hc2
                go_wp2_with fail
                refine at_wld ?_
                intro X hX
                have x1 : X.cell? ⟨wr.heap.size, 3, none⟩ = some (.slice (some ⟨b1, o1, none⟩) n c) := by rw [hX]; simp
                have x2 : X.cell? ⟨wr.heap.size, 4, none⟩ = some (.slice (some ⟨b2, o2, none⟩) n' c') := by rw [hX]; simp
                have x3 : X.cell? ⟨w2.heap.size, 3, none⟩ = some (.int .i64 (tt : Int)) := by rw [hX]; exact p3
                rw [← hX] at k1 k2
                have hbX : Below wr.heap.size wr X := by rw [hX]; exact (Below.refl _ _).alloc (Nat.le_refl _) _
                have HBX := Lib.hid hbX
                have hwx : ∀ b, P.K b = 7 → b < wr.heap.size := fun b hb => Nat.lt_of_lt_of_le (H.out.lt b (own_of P hb (by omega))) HBB.out.size
                have HR1 := Lib.hid (bytes_more (bytes_keep (HL1.out.bytes hwx) hbX) hbX.size)
                have HR2 := Lib.hid (bytes_more (bytes_keep (HL2.out.bytes hwx) hbX) hbX.size)
                have HXS := Lib.hid (Nat.le_trans HBB.out.size hbX.size)
                have HLN1 := Lib.hid (show ([] : List UInt8).length + n1 ≤ 140737488355328 by simp; omega)
                have HLN2 := Lib.hid (show ([] : List UInt8).length + n2 ≤ 140737488355328 by simp; omega)
                clear hX hbX hwx p0 p1 p2 p3 q0 q1 q2 q3 q4 c6
                go_region_held3 (fun w' => w'.cell? ⟨wr.heap.size, 3, none⟩ = some (.slice (some ⟨b1, o1, none⟩) n c) ∧ w'.cell? ⟨wr.heap.size, 4, none⟩ = some (.slice (some ⟨b2, o2, none⟩) n' c') ∧ w'.cell? ⟨w2.heap.size, 3, none⟩ = some (.int .i64 (tt : Int)) ∧ w'.cell? ⟨b1, o1 + tt, none⟩ = some (.slice A1 n1 c1) ∧ w'.cell? ⟨b2, o2 + tt, none⟩ = some (.slice A2 n2 c2))
                  (first
                    | exact ⟨x1, x2, x3, k1, k2⟩
                    | exact held5_keep ⟨x1, x2, x3, k1, k2⟩ hB4
                    | exact held5_keep ⟨x1, x2, x3, k1, k2⟩ (hB3.alloc hB3.size _)
                    | exact held5_keep ⟨x1, x2, x3, k1, k2⟩ hB3
                    | exact held5_keep ⟨x1, x2, x3, k1, k2⟩ ((Below.refl _ _).alloc (Nat.le_refl _) _)
                    | exact held5_keep ⟨x1, x2, x3, k1, k2⟩ (((Below.refl _ _).alloc (Nat.le_refl _) _).alloc (by simp) _)
                    | go_keep)
                  (first
                    | (refine step_append_bytes _ (o := ⟨some 80, _, _, _, _, _⟩) (by rfl) _ _ _ (by rfl) X.heap.size 5 Try.underlying47 info8 (.slice (some ⟨X.heap.size, 0, none⟩) 0 0) [] (by rfl) (by exact own_new X _ [] _ rfl (Nat.zero_le _)) X.heap.size A1 n1 c1 xs (by rfl) (by exact bytes_keep HR1.out (((Below.refl _ _).alloc (Nat.le_refl _) _).drew)) HLN1.out (by simp <;> omega) ?_; intro v3 w3 ho3 hg3 hl3; have hB3 : Below X.heap.size X w3 := (((Below.refl _ X).alloc (Nat.le_refl _) _).drew).grown hg3 (by simp) (fun k hk => by simp [Value.ownBlock] at hk; omega); have HO3 := Lib.hid ho3; clear hg3 hl3 ho3)
                    | (refine step_append_bytes _ (o := ⟨some 80, _, _, _, _, _⟩) (by rfl) _ _ _ (by rfl) X.heap.size 5 Try.underlying47 info8 (.slice (some ⟨X.heap.size, 0, none⟩) 0 0) [] (by rfl) (by exact (own_new X _ [] _ rfl (Nat.zero_le _)).alloc _) X.heap.size A1 n1 c1 xs (by rfl) (by exact bytes_keep HR1.out ((((Below.refl _ _).alloc (Nat.le_refl _) _).alloc (by simp) _).drew)) HLN1.out (by simp <;> omega) ?_; intro v3 w3 ho3 hg3 hl3; have hB3 : Below X.heap.size X w3 := ((((Below.refl _ X).alloc (Nat.le_refl _) _).alloc (by simp) _).drew).grown hg3 (by simp; omega) (fun k hk => by simp [Value.ownBlock] at hk; omega); have hq := second_kept hg3; have hv3 := loc_first hl3; have HO3 := Lib.hid ho3; clear hg3 hl3 ho3)
                    | (refine step_append_bytes _ (o := ⟨some 80, _, _, _, _, _⟩) (by rfl) _ _ _ (by rfl) X.heap.size 5 Try.underlying47 info8 (.slice (some ⟨X.heap.size + 1, 0, none⟩) 0 0) [] (by rfl) (by exact own_later X _) X.heap.size A1 n1 c1 xs (by rfl) (by exact bytes_keep HR1.out ((((Below.refl _ _).alloc (Nat.le_refl _) _).alloc (by simp) _).drew)) HLN1.out (by simp <;> omega) ?_; intro v3 w3 ho3 hg3 hl3; have hB3 : Below X.heap.size X w3 := ((((Below.refl _ X).alloc (Nat.le_refl _) _).alloc (by simp) _).drew).grown hg3 (by simp; omega) (fun k hk => by simp [Value.ownBlock] at hk; omega); have hq := first_kept hg3; have hv3 := loc_second hl3; have HO3 := Lib.hid ho3; clear hg3 hl3 ho3)
                    | (refine step_append_bytes _ (o := ⟨some 88, _, _, _, _, _⟩) (by rfl) _ _ _ (by rfl) w3.heap.size 5 Try.underlying47 info8 (.slice (some ⟨w3.heap.size, 0, none⟩) 0 0) [] (by rfl) (by exact own_new w3 _ [] _ rfl (Nat.zero_le _)) X.heap.size A2 n2 c2 ys (by rfl) (by exact bytes_keep HR2.out (hB3.alloc hB3.size _)) HLN2.out (by simp) ?_; intro v4 w4 ho4 hg4 _; have hB4 : Below X.heap.size X w4 := (hB3.alloc hB3.size _).grown hg4 (Nat.le_trans hB3.size (by simp)) (fun k hk => by have := hB3.size; simp [Value.ownBlock] at hk; omega); have HK3 := Lib.hid (own_past HO3.out hg4); have HO4 := Lib.hid (Own.le ho4 hB3.size); clear hg4 ho4)
                    | (refine step_append_bytes _ (o := ⟨some 88, _, _, _, _, _⟩) (by rfl) _ _ _ (by rfl) X.heap.size 5 Try.underlying47 info8 (.slice (some ⟨X.heap.size + 1, 0, none⟩) 0 0) [] (by rfl) (by exact hq) X.heap.size A2 n2 c2 ys (by rfl) (by exact bytes_keep HR2.out hB3) HLN2.out (by exact hB3.size) ?_; intro v4 w4 ho4 hg4 _; have hB4 : Below X.heap.size X w4 := hB3.grown hg4 hB3.size (fun k hk => by simp [Value.ownBlock] at hk; omega); have HK3 := Lib.hid (HO3.out.keep (fun k hk => hg4.block k (HO3.out.lt k hk) (fun e => hv3 k hk (by simpa [Value.ownBlock] using e)))); have HO4 := Lib.hid ho4; clear hg4 ho4)
                    | (refine step_append_bytes _ (o := ⟨some 88, _, _, _, _, _⟩) (by rfl) _ _ _ (by rfl) X.heap.size 5 Try.underlying47 info8 (.slice (some ⟨X.heap.size, 0, none⟩) 0 0) [] (by rfl) (by exact hq) X.heap.size A2 n2 c2 ys (by rfl) (by exact bytes_keep HR2.out hB3) HLN2.out (by exact hB3.size) ?_; intro v4 w4 ho4 hg4 _; have hB4 : Below X.heap.size X w4 := hB3.grown hg4 hB3.size (fun k hk => by simp [Value.ownBlock] at hk; omega); have HK3 := Lib.hid (HO3.out.keep (fun k hk => hg4.block k (HO3.out.lt k hk) (fun e => hv3 k hk (by simpa [Value.ownBlock] using e)))); have HO4 := Lib.hid ho4; clear hg4 ho4))
                all_goals
                  rename_i hHeld
                  clear hHeld
                  go_wp2
                  go_ret3
                  refine ⟨⟨v3, v4, 0, rfl, Or.inr ⟨xs, ys, ?_, rfl, Own.le HK3.out HXS.out, Own.le HO4.out HXS.out⟩⟩, below_then HBB.out ((HBX.out.trans (hB4.mono HBX.out.size)))⟩
                  rw [HTO.out, HTT.out, if_pos HYES.out]
                  unfold Ev.gives
                  rw [if_pos (by have := HLD.out.1; show ((tt : Int)).toNat < ed.length; omega), Int.toNat_natCast]
                  simp only [List.getD_eq_getElem?_getD, HX1.out, HX2.out, Option.getD_some]
            · have d4 : (eg != g) = true := by simpa using a4
              have HNO : Hid (¬ Ev.meets ⟨eu, eb, eg, ed, eo⟩ u b g) := Lib.hid (fun h => h.2.2.elim a3 a4)
              clear a1 a2 a3 a4
              go_wp2
              go_roundw
              case measure => first | (simp [intOf]; done) | (simp [intOf]; omega)
              case rel =>
                refine ⟨i, by go_num, by omega, ?_, HBW.out.alloc HS.out _⟩
                have h2 := HTT.out
                rw [if_neg (fun hm => HNO.out hm)] at h2
                exact HTO.out.trans h2
        · have d2 : (eb != b) = true := by simpa using a2
          have HNO : Hid (¬ Ev.meets ⟨eu, eb, eg, ed, eo⟩ u b g) := Lib.hid (fun h => a2 h.2.1)
          clear a1 a2
          go_wp2
          go_roundw
          case measure => first | (simp [intOf]; done) | (simp [intOf]; omega)
          case rel =>
            refine ⟨i, by go_num, by omega, ?_, HBW.out.alloc HS.out _⟩
            have h2 := HTT.out
            rw [if_neg (fun hm => HNO.out hm)] at h2
            exact HTO.out.trans h2
      · have d1 : (eu != u) = true := by simpa using a1
        have HNO : Hid (¬ Ev.meets ⟨eu, eb, eg, ed, eo⟩ u b g) := Lib.hid (fun h => a1 h.1)
        clear a1
        go_wp2
        go_roundw
        case measure => first | (simp [intOf]; done) | (simp [intOf]; omega)
        case rel =>
          refine ⟨i, by go_num, by omega, ?_, HBW.out.alloc HS.out _⟩
          have h2 := HTT.out
          rw [if_neg (fun hm => HNO.out hm)] at h2
          exact HTO.out.trans h2
    · obtain rfl : k = 0 := by omega
      have e0 : ((0 : Nat) : Int) - 1 = -1 := by omega
      rw [e0]
      go_wp2
      go_ret3
      exact ⟨⟨_, _, 6, rfl, Or.inl ⟨by rw [HTO.out]; rfl, rfl, own_none _ _ _, own_none _ _ _⟩⟩, (HB.out.alloc HB.out.size _).trans (HBW.out.mono (Nat.le_succ_of_le HB.out.size))⟩
end

end Go.Proofs.Ytlmdlhfdacmcnaa.NandRef
