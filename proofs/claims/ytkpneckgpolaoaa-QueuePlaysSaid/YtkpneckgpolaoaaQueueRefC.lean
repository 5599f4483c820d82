/-
  What the document's queues do: First and Pop.
-/
import Derived.Test.YtkpneckgpolaoaaQueueRefB
namespace Go.Proofs.Ytkpneckgpolaoaa.QueueRef
open Go.RowKit Queue QueuePkg
set_option maxRecDepth 4000

theorem rFirst_none {w : World} {P : Pl} {ch : Int} {rs : List Rw} (h : Rs w P ch rs) (c : Int) (hl : rs.length ≤ 1000000000) (hc : ∀ x ∈ rs.map Rw.x, here c x = false) :
    Calls Try.prog 23 #[ptr P.g, .int .i64 c] w fun e w' => e = .returned (.tuple #[jobV zero (.slice none 0 0), .bool false]) ∧ Below w.heap.size w w' := by
  have hb := (Below.refl w.heap.size w).alloc (Nat.le_refl _) (.cells #[.int .i64 0, .int .i64 0, .int .i64 0, .int .i64 0, .slice none 0 0] 32)
  have HF := Lib.hid (first_any (h.below hb) c hl)
  have H2 := Lib.hid (Five.new w 32 (.int .i64 0) (.int .i64 0) (.int .i64 0) (.int .i64 0) (.slice none 0 0))
  have HB := Lib.hid hb
  have HC := Lib.hid hc
  clear h hb hc
  go_enter Try.func23, Try.ntmps23
  go_wp2_with fail
  refine HF.out.mono ?_
  rintro e w2 ⟨z, rfl, rfl, hz⟩
  obtain rfl : z = -1 := by
    rcases hz with ⟨h1, _⟩ | ⟨i, x, _, hf⟩
    · exact h1
    · have := HC.out x (List.mem_of_getElem? hf.at_)
      rw [hf.is] at this
      cases this
  clear HF hz HC
  obtain ⟨d0, d1, d2, d3, d4⟩ := H2.out.cells
  obtain ⟨f0, f1, f2, f3, f4⟩ := H2.out.free
  go_wp2
  clear f0 f1 f2 f3 f4
  refine bodyPost_ret (v := .tuple #[jobV zero (.slice none 0 0), .bool false]) ?_ rfl ⟨rfl, HB.out⟩
  simp [results, Try.results23, go_sem, zero]

theorem rFirst_some {w : World} {P : Pl} {ch : Int} {rs : List Rw} (h : Rs w P ch rs) (c : Int) (hl : rs.length ≤ 1000000000) (i : Nat) (x : Ld) (hf : Fst (rs.map Rw.x) c i x) :
    Calls Try.prog 23 #[ptr P.g, .int .i64 c] w fun e w' => ∃ v, e = .returned (.tuple #[jobV x.j v, .bool true]) ∧ OwnI w' w.heap.size 3 v x.j.d ∧ Below w.heap.size w w' := by
  have hb := (Below.refl w.heap.size w).alloc (Nat.le_refl _) (.cells #[.int .i64 0, .int .i64 0, .int .i64 0, .int .i64 0, .slice none 0 0] 32)
  have h1 := h.below hb
  have HF := Lib.hid (first_any h1 c hl)
  obtain ⟨r, hr, rfl⟩ : ∃ r, rs[i]? = some r ∧ r.x = x := by have := hf.at_; rw [List.getElem?_map, Option.map_eq_some_iff] at this; exact this
  obtain ⟨Av, kv, hv, hnk, hk, _⟩ := h1.slice
  have hin : i < rs.length := (List.getElem?_eq_some_iff.1 hr).1
  obtain ⟨b, rfl, _, k1, k2, k3, k4, k5, _, _⟩ := h1.look hv hr
  obtain ⟨_, gc⟩ := h1.cells
  rw [hv] at gc
  obtain ⟨n, hn⟩ : ∃ n, rs.length = n := ⟨_, rfl⟩
  rw [hn] at gc hin hnk hl
  have hin2 : (i : Int) < (n : Int) := by omega
  have hi0 : (0 : Int) ≤ (i : Int) := by omega
  have hi1 : decide ((i : Int) < 0) = false := by simp
  unfold maxLen at hk
  obtain ⟨A, cd, hvd, _, _, hsm, hlie⟩ := h1.data r (List.mem_of_getElem? hr)
  have hd := fun b hb => h1.d_lt b hb
  have HFF := Lib.hid hf
  obtain ⟨⟨xc, ⟨k0, l0, u0, p0, d⟩, xg⟩, v⟩ := r
  dsimp only at k1 k2 k3 k4 k5 hvd hsm hlie HFF ⊢
  subst hvd
  have HC := Lib.hid (Own_any ⟨k0, l0, u0, p0, d⟩ A d.length cd _ _ hsm (hlie.nums hd) (Nat.le_refl _))
  have H2 := Lib.hid (Five.new w 32 (.int .i64 0) (.int .i64 0) (.int .i64 0) (.int .i64 0) (.slice none 0 0))
  have HB := Lib.hid hb
  clear h h1 hb hv hf hlie hd hr hn
  go_enter Try.func23, Try.ntmps23
  go_wp2_with fail
  refine HF.out.mono ?_
  rintro e w2 ⟨z, rfl, rfl, hz⟩
  obtain rfl : z = i := by
    rcases hz with ⟨_, h1⟩ | ⟨i2, x2, h1, hf⟩
    · have := h1 _ (List.mem_of_getElem? HFF.out.at_)
      rw [HFF.out.is] at this
      cases this
    · rw [h1]
      congr 1
      rcases Nat.lt_trichotomy i i2 with h3 | h3 | h3
      · have := hf.no i h3 _ HFF.out.at_
        rw [HFF.out.is] at this
        cases this
      · exact h3.symm
      · have := HFF.out.no i2 h3 _ hf.at_
        rw [hf.is] at this
        cases this
  clear HF hz HFF
  go_wp2_with fail
  refine HC.out.mono ?_
  rintro e w3 ⟨v3, rfl, ho, hb⟩
  obtain ⟨A3, n3, c3, rfl⟩ := ho.form
  replace H2 := Lib.hid (H2.out.below hb)
  replace HB := Lib.hid (below_on HB.out hb HB.out.size)
  rw [World.size_alloc] at ho
  have HO := Lib.hid ho
  clear ho hb HC k1 k2 k3 k4 k5 gc
  obtain ⟨d0, d1, d2, d3, d4⟩ := H2.out.cells
  obtain ⟨f0, f1, f2, f3, f4⟩ := H2.out.free
  go_wp2
  clear f0 f1 f2 f3 f4 d0 d1 d2 d3 d4
  have hP := H2.out.set (.int .i64 k0) (.int .i64 l0) (.int .i64 u0) (.int .i64 p0) (.slice A3 n3 c3)
  have HX := Lib.hid (below_set5 HB.out (Nat.le_refl _) (.int .i64 k0) (.int .i64 l0) (.int .i64 u0) (.int .i64 p0) (.slice A3 n3 c3))
  have HK : Hid (∀ b, w.heap.size + 1 ≤ b → (((((w3.setCell ⟨w.heap.size, 0, none⟩ (.int .i64 k0)).setCell ⟨w.heap.size, 1, none⟩ (.int .i64 l0)).setCell ⟨w.heap.size, 2, none⟩ (.int .i64 u0)).setCell ⟨w.heap.size, 3, none⟩ (.int .i64 p0)).setCell ⟨w.heap.size, 4, none⟩ (.slice A3 n3 c3)).heap[b]? = w3.heap[b]?) := Lib.hid (fun b hb => other_set5 (by omega) _ _ _ _ _)
  clear H2 HB
  generalize World.setCell _ _ _ = Y at hP HX HK ⊢
  obtain ⟨P0, P1, P2, P3, P4⟩ := hP.cells
  refine bodyPost_ret (v := .tuple #[jobV ⟨k0, l0, u0, p0, d⟩ (.slice A3 n3 c3), .bool true]) ?_ rfl ⟨_, rfl, ?_, HX.out⟩
  · simp [results, Try.results23, go_sem, P0, P1, P2, P3, P4]
  · have h := HO.out.keep fun b hb => HK.out b (HO.out.block b hb)
    exact ⟨h.1, h.2.imp id fun ⟨g, cap, cur, hv, hg, r⟩ => ⟨g, cap, cur, hv, by omega, r⟩⟩

theorem rPop_none {w : World} {P : Pl} {ch : Int} {rs : List Rw} (h : Rs w P ch rs) (c : Int) (hl : rs.length ≤ 1000000000) (hc : ∀ x ∈ rs.map Rw.x, here c x = false) :
    Calls Try.prog 22 #[ptr P.g, .int .i64 c] w fun e w' => e = .returned (.tuple #[jobV zero (.slice none 0 0), .bool false]) ∧ Below w.heap.size w w' := by
  have hb := (Below.refl w.heap.size w).alloc (Nat.le_refl _) (.cells #[.int .i64 0, .int .i64 0, .int .i64 0, .int .i64 0, .slice none 0 0] 32)
  have HF := Lib.hid (first_any (h.below hb) c hl)
  have H2 := Lib.hid (Five.new w 32 (.int .i64 0) (.int .i64 0) (.int .i64 0) (.int .i64 0) (.slice none 0 0))
  have HB := Lib.hid hb
  have HC := Lib.hid hc
  clear h hb hc
  go_enter Try.func22, Try.ntmps22
  go_wp2_with fail
  refine HF.out.mono ?_
  rintro e w2 ⟨z, rfl, rfl, hz⟩
  obtain rfl : z = -1 := by
    rcases hz with ⟨h1, _⟩ | ⟨i, x, _, hf⟩
    · exact h1
    · have := HC.out x (List.mem_of_getElem? hf.at_)
      rw [hf.is] at this
      cases this
  clear HF hz HC
  obtain ⟨d0, d1, d2, d3, d4⟩ := H2.out.cells
  obtain ⟨f0, f1, f2, f3, f4⟩ := H2.out.free
  go_wp2
  clear f0 f1 f2 f3 f4
  refine bodyPost_ret (v := .tuple #[jobV zero (.slice none 0 0), .bool false]) ?_ rfl ⟨rfl, HB.out⟩
  simp [results, Try.results22, go_sem, zero]

theorem Pl.own_v {P : Pl} {b n c : Nat} (hv : P.v = .slice (some ⟨b, 0, none⟩) n c) : P.own b := .inr (.inl (by rw [hv]; rfl))

theorem rPop_some {w : World} {P : Pl} {ch : Int} {rs : List Rw} (h : Rs w P ch rs) (c : Int) (hl : rs.length ≤ 1000000000) (i : Nat) (x : Ld) (hf : Fst (rs.map Rw.x) c i x) :
    Calls Try.prog 22 #[ptr P.g, .int .i64 c] w fun e w' => ∃ v, e = .returned (.tuple #[jobV x.j v, .bool true]) ∧ OwnI w' w.heap.size 3 v x.j.d ∧ Rs w' P ch (rs.modify i Rw.off) ∧ Turn P.own P.own w w' := by
  have hb := (Below.refl w.heap.size w).alloc (Nat.le_refl _) (.cells #[.int .i64 0, .int .i64 0, .int .i64 0, .int .i64 0, .slice none 0 0] 32)
  have h1 := h.below hb
  have HF := Lib.hid (first_any h1 c hl)
  obtain ⟨r, hr, rfl⟩ : ∃ r, rs[i]? = some r ∧ r.x = x := by have := hf.at_; rw [List.getElem?_map, Option.map_eq_some_iff] at this; exact this
  obtain ⟨Av, kv, hv, hnk, hk, _⟩ := h1.slice
  have hin : i < rs.length := (List.getElem?_eq_some_iff.1 hr).1
  obtain ⟨b, rfl, _, k1, k2, k3, k4, k5, k6, f6⟩ := h1.look hv hr
  obtain ⟨_, gc⟩ := h1.cells
  have hset := h1.set_off (i := i) hv
  have hwk : ∀ k, P.own k → k < w.heap.size := h.lt
  have hbo : P.own b := Pl.own_v hv
  have hgr := grown_setCell (w.alloc (.cells #[.int .i64 0, .int .i64 0, .int .i64 0, .int .i64 0, .slice none 0 0] 32)) ⟨b, i * 7 + 6, none⟩ (.bool true)
  have hT : Turn P.own P.own w ((w.alloc (.cells #[.int .i64 0, .int .i64 0, .int .i64 0, .int .i64 0, .slice none 0 0] 32)).setCell ⟨b, i * 7 + 6, none⟩ (.bool true)) := (Turn.of_below P.own hb).trans (Turn.of_grown hgr hbo)
  have h2 : Five ((w.alloc (.cells #[.int .i64 0, .int .i64 0, .int .i64 0, .int .i64 0, .slice none 0 0] 32)).setCell ⟨b, i * 7 + 6, none⟩ (.bool true)) w.heap.size 32 (.int .i64 0) (.int .i64 0) (.int .i64 0) (.int .i64 0) (.slice none 0 0) := (Five.new w _ _ _ _ _ _).keep (Below.heap_setCell _ _ _ _ (by have := hwk b hbo; show w.heap.size ≠ b; omega))
  have hr2 : (rs.modify i Rw.off)[i]? = some r.off := by rw [List.getElem?_modify, hr]; simp
  have hv2 : P.v = .slice (some ⟨b, 0, none⟩) (rs.modify i Rw.off).length kv := by rw [List.length_modify]; exact hv
  obtain ⟨b', e0, _, q1, q2, q3, q4, q5, _, _⟩ := hset.look hv2 hr2
  obtain rfl : b = b' := by injection e0 with e0; injection e0
  obtain ⟨_, gq⟩ := hset.cells
  have hneg : b ≠ P.g := fun e => h.g_v (by rw [hv, e]; rfl)
  rw [hv] at gc gq
  obtain ⟨n, hn⟩ : ∃ n, rs.length = n := ⟨_, rfl⟩
  rw [hn] at gc gq hin hnk hl
  have hin2 : (i : Int) < (n : Int) := by omega
  have hi0 : (0 : Int) ≤ (i : Int) := by omega
  have hi1 : decide ((i : Int) < 0) = false := by simp
  unfold maxLen at hk
  obtain ⟨A, cd, hvd, _, _, hsm, hlie⟩ := hset.data r.off (List.mem_of_getElem? hr2)
  have hd := fun b hb => hset.d_lt b hb
  have HFF := Lib.hid hf
  obtain ⟨⟨xc, ⟨k0, l0, u0, p0, d⟩, xg⟩, v⟩ := r
  simp only [Rw.off, Ld.off] at q1 q2 q3 q4 q5 hvd hsm hlie
  dsimp only at HFF k6 ⊢
  subst hvd
  have HC := Lib.hid (Own_any ⟨k0, l0, u0, p0, d⟩ A d.length cd _ _ hsm (hlie.nums hd) (Nat.le_refl _))
  have HS := Lib.hid hset
  have H2 := Lib.hid h2
  have HT := Lib.hid hT
  have HW : Hid (¬ P.own w.heap.size) := Lib.hid (fun ho => by have := hwk _ ho; omega)
  clear h h1 hb hv hv2 hf hlie hd hr hr2 hn hset h2 hT hgr hwk hbo k1 k2 k3 k4 k5 e0
  go_enter Try.func22, Try.ntmps22
  go_wp2_with fail
  refine HF.out.mono ?_
  rintro e w2 ⟨z, rfl, rfl, hz⟩
  obtain rfl : z = i := by
    rcases hz with ⟨_, h1⟩ | ⟨i2, x2, h1, hf⟩
    · have := h1 _ (List.mem_of_getElem? HFF.out.at_)
      rw [HFF.out.is] at this
      cases this
    · rw [h1]
      congr 1
      rcases Nat.lt_trichotomy i i2 with h3 | h3 | h3
      · have := hf.no i h3 _ HFF.out.at_
        rw [HFF.out.is] at this
        cases this
      · exact h3.symm
      · have := HFF.out.no i2 h3 _ hf.at_
        rw [hf.is] at this
        cases this
  clear HF hz HFF
  go_upto_region 5 with fail
  generalize (w.alloc (.cells #[.int .i64 0, .int .i64 0, .int .i64 0, .int .i64 0, .slice none 0 0] 32)).setCell ⟨b, i * 7 + 6, none⟩ (.bool true) = Y at HC HS H2 HT gq q1 q2 q3 q4 q5 ⊢
  clear gc k6 f6
  go_wp2_with fail
  refine HC.out.mono ?_
  rintro e w3 ⟨v3, rfl, ho, hb⟩
  obtain ⟨A3, n3, c3, rfl⟩ := ho.form
  have HO := Lib.hid ho
  have HWL := Lib.hid H2.out.lt
  have HBY := Lib.hid hb
  replace HS := Lib.hid (HS.out.below hb)
  replace H2 := Lib.hid (H2.out.below hb)
  replace HT := Lib.hid (HT.out.trans (Turn.of_below P.own hb))
  clear ho hb HC q1 q2 q3 q4 q5 gq
  obtain ⟨d0, d1, d2, d3, d4⟩ := H2.out.cells
  obtain ⟨f0, f1, f2, f3, f4⟩ := H2.out.free
  go_wp2
  clear f0 f1 f2 f3 f4 d0 d1 d2 d3 d4
  have hP := H2.out.set (.int .i64 k0) (.int .i64 l0) (.int .i64 u0) (.int .i64 p0) (.slice A3 n3 c3)
  have HK : Hid (∀ b, b ≠ w.heap.size → (((((w3.setCell ⟨w.heap.size, 0, none⟩ (.int .i64 k0)).setCell ⟨w.heap.size, 1, none⟩ (.int .i64 l0)).setCell ⟨w.heap.size, 2, none⟩ (.int .i64 u0)).setCell ⟨w.heap.size, 3, none⟩ (.int .i64 p0)).setCell ⟨w.heap.size, 4, none⟩ (.slice A3 n3 c3)).heap[b]? = w3.heap[b]?) := Lib.hid (fun b hb => other_set5 hb _ _ _ _ _)
  have HX := Lib.hid (grown_row5 w3 w.heap.size 0 (.int .i64 k0) (.int .i64 l0) (.int .i64 u0) (.int .i64 p0) (.slice A3 n3 c3))
  clear H2
  generalize World.setCell _ _ _ = V at hP HX HK ⊢
  obtain ⟨P0, P1, P2, P3, P4⟩ := hP.cells
  refine bodyPost_ret (v := .tuple #[jobV ⟨k0, l0, u0, p0, d⟩ (.slice A3 n3 c3), .bool true]) ?_ rfl ⟨_, rfl, ?_, ?_, ?_⟩
  · simp [results, Try.results22, go_sem, P0, P1, P2, P3, P4]
  · have hw := HWL.out
    have h := HO.out.keep fun b hb => HK.out b (by have := HO.out.block b hb; omega)
    exact ⟨h.1, h.2.imp id fun ⟨g, cap, cur, hv, hg, r⟩ => ⟨g, cap, cur, hv, by omega, r⟩⟩
  · exact HS.out.keep HX.out.size (fun b hb => HK.out b (fun e => HW.out (by rw [← e]; exact hb)))
  · refine ⟨HX.out.os.trans HT.out.os, HX.out.tape.trans HT.out.tape, HX.out.output.trans HT.out.output, Nat.le_trans HT.out.size HX.out.size, fun b hb ho => ?_, HT.out.own⟩
    rw [HK.out b (by omega), HT.out.block b hb ho]

end Go.Proofs.Ytkpneckgpolaoaa.QueueRef
