/-
  What package nand does: Read.
-/
import Derived.Test.YtlmdlhfdacmcnaaNandErase
namespace Go.Proofs.Ytlmdlhfdacmcnaa.NandPkg
open Go.RowKit Nand
set_option maxRecDepth 4000

section
variable {G : Shape} {w : World} {P : Pl} {st : St} {D : Nat → Prop}

theorem read_off (h : Dev G w P st) (hoff : st.off = true) (a : Int) :
    Calls Try.prog 33 #[ptr P.g, .int .i64 a] w fun e w' => e = .returned (.tuple #[.slice none 0 0, .slice none 0 0, .int .i64 5]) ∧ w' = w := by
  have HO := Lib.hid (Off_any h)
  rw [hoff] at HO
  clear h hoff
  go_enter Try.func33, Try.ntmps33
  go_wp2_with fail
  refine HO.out.mono ?_
  rintro e w2 ⟨rfl, rfl⟩
  go_wp2
  go_ret3
  exact ⟨rfl, rfl⟩

theorem read_range (hG : G.Ok) (h : Dev G w P st) (hoff : st.off = false) (a : Int) (ha : ¬ (0 ≤ a ∧ a < G.N)) :
    Calls Try.prog 33 #[ptr P.g, .int .i64 a] w fun e w' => e = .returned (.tuple #[.slice none 0 0, .slice none 0 0, .int .i64 2]) ∧ Below w.heap.size w w' := by
  have HO := Lib.hid (Off_any h)
  rw [hoff] at HO
  obtain ⟨_, h1, h2, h3, h4, h5, _⟩ := h.cells
  have HA := Lib.hid (All_ok hG w)
  have HN := Lib.hid (below_no a G.N ha)
  clear h hoff hG ha
  go_enter Try.func33, Try.ntmps33
  go_wp2_with fail
  refine HO.out.mono ?_
  rintro e w2 ⟨rfl, hw⟩
  subst w2
  go_wp2_with fail
  refine HA.out.mono ?_
  rintro e w3 ⟨rfl, hb⟩
  have HB := Lib.hid hb
  clear hb
  go_wp2_with fail
  refine (HN.out w3).mono ?_
  rintro e w4 ⟨rfl, hw⟩
  subst w4
  go_wp2
  go_ret3
  exact ⟨rfl, HB.out⟩

theorem zero_sector (w : World) : (zeroValue 94).run Try.prog w = .ok (.agg #[.slice none 0 0, .slice none 0 0]) w := by kernel_rfl

theorem read_none (hG : G.Ok) (h : Dev G w P st) (hoff : st.off = false) (a : Int) (ha : 0 ≤ a ∧ a < G.N) (hr : st.rd a = none) :
    Calls Try.prog 33 #[ptr P.g, .int .i64 a] w fun e w' => e = .returned (.tuple #[.slice none 0 0, .slice none 0 0, .int .i64 6]) ∧ Below w.heap.size w w' := by
  have HO := Lib.hid (Off_any h)
  rw [hoff] at HO
  obtain ⟨_, h1, h2, h3, h4, h5, _⟩ := h.cells
  have HA := Lib.hid (All_ok hG w)
  have HN := Lib.hid (below_yes a G.N ha.1 ha.2)
  have H := Lib.hid h
  have HWF := Lib.hid (wf_of_bd (N := 1000000) (by omega) ha.1 (by have := hG.n1; omega))
  clear h hoff hG ha
  go_enter Try.func33, Try.ntmps33
  go_wp2_with fail
  refine HO.out.mono ?_
  rintro e w2 ⟨rfl, hw⟩
  subst w2
  go_wp2_with fail
  refine HA.out.mono ?_
  rintro e w3 ⟨rfl, hb⟩
  have HB := Lib.hid hb
  have hd := H.out.below hb
  have h8 := hd.cells.2.2.2.2.2.2.2.2.1
  obtain ⟨m, hm, hs⟩ := hd.dict
  have hrun := hm.none_run Try.underlying40 (zero_sector w3) HWF.out ((hs a).1 hr)
  clear hb hd hm hs
  go_wp2_with fail
  refine (HN.out w3).mono ?_
  rintro e w4 ⟨rfl, hw⟩
  subst w4
  go_wp2
  go_ret3
  exact ⟨rfl, HB.out.alloc HB.out.size _⟩

theorem read_some (hG : G.Ok) (h : Dev G w P st) (hoff : st.off = false) (a : Int) (ha : 0 ≤ a ∧ a < G.N) (x y : List UInt8) (hr : st.rd a = some (x, y)) :
    Calls Try.prog 33 #[ptr P.g, .int .i64 a] w fun e w' => ∃ v v', e = .returned (.tuple #[v, v', .int .i64 0]) ∧ Own w' w.heap.size 5 v x ∧ Own w' w.heap.size 5 v' y ∧ Below w.heap.size w w' := by
  have HO := Lib.hid (Off_any h)
  rw [hoff] at HO
  obtain ⟨_, h1, h2, h3, h4, h5, _⟩ := h.cells
  have HA := Lib.hid (All_ok hG w)
  have HN := Lib.hid (below_yes a G.N ha.1 ha.2)
  have H := Lib.hid h
  have HWF := Lib.hid (wf_of_bd (N := 1000000) (by omega) ha.1 (by have := hG.n1; omega))
  clear h hoff hG ha
  go_enter Try.func33, Try.ntmps33
  go_wp2_with fail
  refine HO.out.mono ?_
  rintro e w2 ⟨rfl, hw⟩
  subst w2
  go_wp2_with fail
  refine HA.out.mono ?_
  rintro e w3 ⟨rfl, hb⟩
  have HB := Lib.hid hb
  have hd := H.out.below hb
  have h8 := hd.cells.2.2.2.2.2.2.2.2.1
  obtain ⟨m, hm, hs⟩ := hd.dict
  obtain ⟨A, n, c, A', n', c', e1, hn, hn', hl, hl'⟩ := (hs a).2 x y hr
  have hrun := hm.some_run Try.underlying40 (zero_sector w3) HWF.out e1
  have HCL1 := Lib.hid (fun X (hb : Below w3.heap.size w3 X) => PlanPkg.clone_any A n c w3.heap.size x X (by omega) (bytes_keep (hl.bytes (fun b hb => hd.lt b (P.own_d hb))) hb) hb.size)
  have HCL2 := Lib.hid (fun X (hb : Below w3.heap.size w3 X) => PlanPkg.clone_any A' n' c' w3.heap.size y X (by omega) (bytes_keep (hl'.bytes (fun b hb => hd.lt b (P.own_d hb))) hb) hb.size)
  clear hb hd hm hs e1 hl hl'
  go_wp2_with fail
  refine (HN.out w3).mono ?_
  rintro e w4 ⟨rfl, hw⟩
  subst w4
  have hc0 : (w3.alloc (.cells #[.slice A n c, .slice A' n' c'] 94)).cell? ⟨w3.heap.size, 0, none⟩ = some (.slice A n c) := by simp
  have hc1 : (w3.alloc (.cells #[.slice A n c, .slice A' n' c'] 94)).cell? ⟨w3.heap.size, 1, none⟩ = some (.slice A' n' c') := by simp
  have HX : Hid (Below w3.heap.size w3 (w3.alloc (.cells #[.slice A n c, .slice A' n' c'] 94)).drew) := Lib.hid ((Below.refl _ _).alloc (Nat.le_refl _) _).drew
  go_wp2_with fail
  go_region_held3 (fun w' => w'.cell? ⟨w3.heap.size, 0, none⟩ = some (.slice A n c) ∧ w'.cell? ⟨w3.heap.size, 1, none⟩ = some (.slice A' n' c'))
    (first | exact ⟨hc0, hc1⟩ | exact held2_keep (by assumption) hb | go_keep)
    (first
      | (go_at_call_of 59 A; refine (HCL1.out _ HX.out).mono ?_; rintro e w5 ⟨v1, rfl, ho, hb⟩; have HO1 := Lib.hid ho; have HB1 := Lib.hid HX.out.size; replace HX := Lib.hid (below_then HX.out hb); clear ho)
      | (go_at_call_of 59 A'; refine (HCL2.out _ HX.out).mono ?_; rintro e w6 ⟨v2, rfl, ho, hb⟩; have HO2 := Lib.hid ho; have HB2 := Lib.hid HX.out.size; have HB3 := Lib.hid hb; replace HX := Lib.hid (below_then HX.out hb); clear ho))
  rename_i hHeld
  clear hHeld
  go_wp2
  go_ret3
  exact ⟨v1, v2, rfl, (HO1.out.keep (fun k hk => HB3.out.block k (HO1.out.lt k hk))).le (Nat.le_trans HB.out.size HB1.out), HO2.out.le (Nat.le_trans HB.out.size HB2.out), below_then HB.out HX.out⟩

theorem own_none (w : World) (base : Nat) (e : TypeId) : Own w base e (.slice none 0 0) [] := ⟨rfl, Or.inl ⟨rfl, rfl⟩⟩

theorem Read_any (hG : G.Ok) (h : Dev G w P st) (a : Int) :
    Calls Try.prog 33 #[ptr P.g, .int .i64 a] w fun e w' => ∃ v v', e = .returned (.tuple #[v, v', .int .i64 (st.reads G a).2.2]) ∧ Own w' w.heap.size 5 v (st.reads G a).1 ∧ Own w' w.heap.size 5 v' (st.reads G a).2.1 ∧ Below w.heap.size w w' := by
  unfold St.reads
  by_cases hoff : st.off = true
  · rw [if_pos hoff]
    refine (read_off h hoff a).mono ?_
    rintro e w2 ⟨rfl, rfl⟩
    exact ⟨_, _, rfl, own_none _ _ _, own_none _ _ _, Below.refl _ _⟩
  · rw [if_neg hoff]
    replace hoff : st.off = false := by simpa using hoff
    by_cases ha : 0 ≤ a ∧ a < G.N
    · rw [if_neg (fun h => h ha)]
      cases hr : st.rd a with
      | none =>
        refine (read_none hG h hoff a ha hr).mono ?_
        rintro e w2 ⟨rfl, hb⟩
        exact ⟨_, _, rfl, own_none _ _ _, own_none _ _ _, hb⟩
      | some p =>
        obtain ⟨x, y⟩ := p
        exact read_some hG h hoff a ha x y hr
    · rw [if_pos ha]
      refine (read_range hG h hoff a ha).mono ?_
      rintro e w2 ⟨rfl, hb⟩
      exact ⟨_, _, rfl, own_none _ _ _, own_none _ _ _, hb⟩
end

end Go.Proofs.Ytlmdlhfdacmcnaa.NandPkg
