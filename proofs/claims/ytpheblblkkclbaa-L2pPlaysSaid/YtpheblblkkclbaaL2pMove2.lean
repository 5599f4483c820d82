/-
  What package l2p does: Set and Move, all in all.
-/
import Derived.Test.YtpheblblkkclbaaL2pMove
namespace Go.Proofs.Ytpheblblkkclbaa.L2pPkg
open Go.RowKit Go.ChangeShapes L2p
open Nand (Shape)
set_option maxRecDepth 4000

section
variable {G : Shape} {n : Nat} {w w' : World} {P : Pl} {st : St}

theorem Set_any (h : Mp G n w P st) (hN : G.N ≤ 65536) (lba : Int) (e : Ent) :
    Calls Try.prog 19 #[ptr P.g 0, .int .i64 lba, entV e] w fun x w' => x = .returned (setV (setDo st n G.N lba e) (setOk st n G.N lba e)) ∧ ∃ P' : Pl, P'.g = P.g ∧ Mp G n w' P' (setSt st n G.N lba e) ∧ Turn (P.own n G.N.toNat) (P'.own n G.N.toNat) w w' := by
  have keep : ∀ {w'}, Below w.heap.size w w' → ∃ P' : Pl, P'.g = P.g ∧ Mp G n w' P' st ∧ Turn (P.own n G.N.toNat) (P'.own n G.N.toNat) w w' := fun hb => ⟨P, rfl, h.below hb, Turn.of_below _ hb⟩
  by_cases ht : there lba n
  · by_cases hr : right G.N e
    · by_cases ho : who st n e.a ≠ -1 ∧ who st n e.a ≠ lba
      · have e1 : setOk st n G.N lba e = 13 := by unfold setOk; rw [if_neg (fun hh => hh ht), if_neg (fun hh => hh hr), if_pos ho]
        have e2 : setDo st n G.N lba e = false := by unfold setDo; rw [e1]; simp
        have e3 : setSt st n G.N lba e = st := by unfold setSt; rw [e2]; simp
        rw [e1, e2, e3]
        exact (Set_state h hN lba e ht hr ho).mono fun x w' hh => ⟨hh.1, keep hh.2⟩
      · have e1 : setOk st n G.N lba e = 0 := by unfold setOk; rw [if_neg (fun hh => hh ht), if_neg (fun hh => hh hr), if_neg ho]
        obtain ⟨i, rfl⟩ := Int.eq_ofNat_of_zero_le ht.1
        have hi : i < n := by have := ht.2; omega
        by_cases hs : e.s ≤ (st i).s
        · have e2 : setDo st n G.N i e = false := by unfold setDo; rw [e1]; simp; omega
          have e3 : setSt st n G.N i e = st := by unfold setSt; rw [e2]; simp
          rw [e1, e2, e3]
          exact (Set_old h hN i hi e hr ho hs).mono fun x w' hh => ⟨hh.1, keep hh.2⟩
        · have e2 : setDo st n G.N i e = true := by unfold setDo; rw [e1]; simp; omega
          have e3 : setSt st n G.N i e = put st i e := by unfold setSt; rw [e2]; simp
          rw [e1, e2, e3]
          exact Set_new h hN i hi e hr ho (by omega)
    · have e1 : setOk st n G.N lba e = 1 := by unfold setOk; rw [if_neg (fun hh => hh ht), if_pos hr]
      have e2 : setDo st n G.N lba e = false := by unfold setDo; rw [e1]; simp
      have e3 : setSt st n G.N lba e = st := by unfold setSt; rw [e2]; simp
      rw [e1, e2, e3]
      exact (Set_arg h lba e ht hr).mono fun x w' hh => ⟨hh.1, keep hh.2⟩
  · have e1 : setOk st n G.N lba e = 2 := by unfold setOk; rw [if_pos (show ¬ (0 ≤ lba ∧ lba < n) from ht)]
    have e2 : setDo st n G.N lba e = false := by unfold setDo; rw [e1]; simp
    have e3 : setSt st n G.N lba e = st := by unfold setSt; rw [e2]; simp
    rw [e1, e2, e3]
    exact (Set_range h lba e ht).mono fun x w' hh => ⟨hh.1, keep hh.2⟩

theorem Move_range (h : Mp G n w P st) (lba fr to : Int) (ht : ¬ there lba n) :
    Calls Try.prog 20 #[ptr P.g 0, .int .i64 lba, .int .i64 fr, .int .i64 to] w fun x w' => x = .returned (setV false 2) ∧ Below w.heap.size w w' := by
  have HH := Lib.hid (hasE_no h ht)
  clear h ht
  go_enter Try.func20, Try.ntmps20
  go_wp2_with fail
  refine HH.out.mono ?_
  rintro e w2 ⟨rfl, hw⟩; subst w2
  go_wp2
  go_ret2
  exact ⟨rfl, Below.refl _ _⟩

theorem Move_arg (h : Mp G n w P st) (lba fr to : Int) (ht : there lba n) (hr : ¬ (0 ≤ to ∧ to < G.N)) :
    Calls Try.prog 20 #[ptr P.g 0, .int .i64 lba, .int .i64 fr, .int .i64 to] w fun x w' => x = .returned (setV false 1) ∧ Below w.heap.size w w' := by
  have HH := Lib.hid (hasE_yes h ht)
  have HI := Lib.hid (hasI_is h to (t := false) (by simpa using hr))
  clear h ht hr
  go_enter Try.func20, Try.ntmps20
  go_wp2_with fail
  refine HH.out.mono ?_
  rintro e w2 ⟨rfl, hw⟩; subst w2
  go_wp2_with fail
  refine HI.out.mono ?_
  rintro e w2 ⟨rfl, hw⟩; subst w2
  go_wp2
  go_ret2
  exact ⟨rfl, Below.refl _ _⟩

theorem Move_state (h : Mp G n w P st) (hN : G.N ≤ 65536) (lba fr to : Int) (ht : there lba n) (h0 : 0 ≤ to) (h1 : to < G.N) (ho : who st n to ≠ -1 ∧ who st n to ≠ lba) :
    Calls Try.prog 20 #[ptr P.g 0, .int .i64 lba, .int .i64 fr, .int .i64 to] w fun x w' => x = .returned (setV false 13) ∧ Below w.heap.size w w' := by
  have HH := Lib.hid (hasE_yes h ht)
  have HI := Lib.hid (hasI_is h to (t := true) (by simpa using ⟨h0, h1⟩))
  have HO := Lib.hid (isOthers_of h hN lba to h0 h1 (t := true) (decide_eq_true ho))
  clear h ht ho h0 h1
  go_enter Try.func20, Try.ntmps20
  go_wp2_with fail
  refine HH.out.mono ?_
  rintro e w2 ⟨rfl, hw⟩; subst w2
  go_wp2_with fail
  refine HI.out.mono ?_
  rintro e w2 ⟨rfl, hw⟩; subst w2
  go_wp2_with fail
  refine HO.out.mono ?_
  rintro e w2 ⟨rfl, hw⟩; subst w2
  go_wp2
  go_ret2
  exact ⟨rfl, Below.refl _ _⟩

theorem Move_no (h : Mp G n w P st) (hN : G.N ≤ 65536) (i : Nat) (hi : i < n) (fr to : Int) (h0 : 0 ≤ to) (h1 : to < G.N) (ho : ¬ (who st n to ≠ -1 ∧ who st n to ≠ (i : Int))) (hf : (st i).a = -1 ∨ (st i).a ≠ fr) :
    Calls Try.prog 20 #[ptr P.g 0, .int .i64 (i : Int), .int .i64 fr, .int .i64 to] w fun x w' => x = .returned (setV false 0) ∧ Below w.heap.size w w' := by
  have HH := Lib.hid (hasE_yes h (lba := (i : Int)) ⟨by omega, by omega⟩)
  have HI := Lib.hid (hasI_is h to (t := true) (by simpa using ⟨h0, h1⟩))
  have HO := Lib.hid (isOthers_of h hN i to h0 h1 (t := false) (decide_eq_false ho))
  have HG := Lib.hid (getE_is h i hi)
  generalize st i = E at HG hf
  have HF := Lib.hid hf
  clear h ho h0 h1 hf
  by_cases hm : E.a = -1
  · have HM := Lib.hid (fun w => show Calls Try.prog 31 #[entV E] w fun x w' => x = .returned (.bool false) ∧ Below w.heap.size w w' by
      have := isMapped_any E w
      rwa [show decide (E.a ≠ -1) = false by simp [hm]] at this)
    clear hm
    go_enter Try.func20, Try.ntmps20
    go_wp2_with fail
    refine HH.out.mono ?_
    rintro e w2 ⟨rfl, hw⟩; subst w2
    go_wp2_with fail
    refine HI.out.mono ?_
    rintro e w2 ⟨rfl, hw⟩; subst w2
    go_wp2_with fail
    refine HO.out.mono ?_
    rintro e w2 ⟨rfl, hw⟩; subst w2
    go_wp2_with fail
    refine HG.out.mono ?_
    rintro e w2 ⟨rfl, hb⟩
    have HB := Lib.hid (hb.alloc hb.size (.cells #[.int .i64 E.a, .int .i64 E.s, .int .i64 E.k] 30))
    clear hb
    unfold entV
    go_wp2_with fail
    refine (HM.out _).mono ?_
    rintro e w3 ⟨rfl, hb⟩
    replace HB := Lib.hid (below_then HB.out hb)
    clear hb
    go_wp2
    go_ret2
    exact ⟨rfl, HB.out⟩
  · have hne : (E.a != fr) = true := by simpa using HF.out.resolve_left hm
    have HM := Lib.hid (fun w => show Calls Try.prog 31 #[entV E] w fun x w' => x = .returned (.bool true) ∧ Below w.heap.size w w' by
      have := isMapped_any E w
      rwa [show decide (E.a ≠ -1) = true by simp [hm]] at this)
    clear hm
    go_enter Try.func20, Try.ntmps20
    go_wp2_with fail
    refine HH.out.mono ?_
    rintro e w2 ⟨rfl, hw⟩; subst w2
    go_wp2_with fail
    refine HI.out.mono ?_
    rintro e w2 ⟨rfl, hw⟩; subst w2
    go_wp2_with fail
    refine HO.out.mono ?_
    rintro e w2 ⟨rfl, hw⟩; subst w2
    go_wp2_with fail
    refine HG.out.mono ?_
    rintro e w2 ⟨rfl, hb⟩
    have hq := hb.alloc hb.size (.cells #[.int .i64 E.a, .int .i64 E.s, .int .i64 E.k] 30)
    have q0 : (w2.alloc (.cells #[.int .i64 E.a, .int .i64 E.s, .int .i64 E.k] 30)).cell? ⟨w2.heap.size, 0, none⟩ = some (.int .i64 E.a) := by simp [World.cell?_alloc_at]
    have HB := Lib.hid hq
    clear hb hq
    unfold entV
    go_wp2_with fail
    refine (HM.out _).mono ?_
    rintro e w3 ⟨rfl, hb⟩
    replace HB := Lib.hid (below_then HB.out hb)
    replace q0 := cell_stays hb q0
    clear hb
    go_wp2
    go_ret2
    exact ⟨rfl, HB.out⟩

theorem Move_yes (h : Mp G n w P st) (hN : G.N ≤ 65536) (i : Nat) (hi : i < n) (fr to : Int) (h0 : 0 ≤ to) (h1 : to < G.N) (ho : ¬ (who st n to ≠ -1 ∧ who st n to ≠ (i : Int))) (hm : (st i).a ≠ -1) (hf : (st i).a = fr) :
    Calls Try.prog 20 #[ptr P.g 0, .int .i64 (i : Int), .int .i64 fr, .int .i64 to] w fun x w' => x = .returned (setV true 0) ∧ ∃ P' : Pl, P'.g = P.g ∧ Mp G n w' P' (put st i (moved (st i) to)) ∧ Turn (P.own n G.N.toNat) (P'.own n G.N.toNat) w w' := by
  have HH := Lib.hid (hasE_yes h (lba := (i : Int)) ⟨by omega, by omega⟩)
  have HI := Lib.hid (hasI_is h to (t := true) (by simpa using ⟨h0, h1⟩))
  have HO := Lib.hid (isOthers_of h hN i to h0 h1 (t := false) (decide_eq_false ho))
  have HG := Lib.hid (getE_is h i hi)
  have HS := Lib.hid (fun w' (hb : Below w.heap.size w w') => store_any (h.below hb) hN i hi (moved (st i) to) (moved_right h.inv hi hm h0 h1) (free_of h.inv h0 (by show who st n to = -1 ∨ who st n to = (i : Int); omega)))
  generalize st i = E at HG HS hf hm ⊢
  have hne : (E.a != fr) = false := by simpa using hf
  have HM := Lib.hid (fun w => show Calls Try.prog 31 #[entV E] w fun x w' => x = .returned (.bool true) ∧ Below w.heap.size w w' by
    have := isMapped_any E w
    rwa [show decide (E.a ≠ -1) = true by simp [hm]] at this)
  clear h ho h0 h1 hf hm
  go_enter Try.func20, Try.ntmps20
  go_wp2_with fail
  refine HH.out.mono ?_
  rintro e w2 ⟨rfl, hw⟩; subst w2
  go_wp2_with fail
  refine HI.out.mono ?_
  rintro e w2 ⟨rfl, hw⟩; subst w2
  go_wp2_with fail
  refine HO.out.mono ?_
  rintro e w2 ⟨rfl, hw⟩; subst w2
  go_wp2_with fail
  refine HG.out.mono ?_
  rintro e w2 ⟨rfl, hb⟩
  have hq := hb.alloc hb.size (.cells #[.int .i64 E.a, .int .i64 E.s, .int .i64 E.k] 30)
  have q0 : (w2.alloc (.cells #[.int .i64 E.a, .int .i64 E.s, .int .i64 E.k] 30)).cell? ⟨w2.heap.size, 0, none⟩ = some (.int .i64 E.a) := by simp [World.cell?_alloc_at]
  have q1 : (w2.alloc (.cells #[.int .i64 E.a, .int .i64 E.s, .int .i64 E.k] 30)).cell? ⟨w2.heap.size, 1, none⟩ = some (.int .i64 E.s) := by simp [World.cell?_alloc_at]
  have q2 : (w2.alloc (.cells #[.int .i64 E.a, .int .i64 E.s, .int .i64 E.k] 30)).cell? ⟨w2.heap.size, 2, none⟩ = some (.int .i64 E.k) := by simp [World.cell?_alloc_at]
  have z0 : (w2.alloc (.cells #[.int .i64 E.a, .int .i64 E.s, .int .i64 E.k] 30)).frozen? ⟨w2.heap.size, 0, none⟩ = false := World.frozen?_alloc_at _ _ _ _ rfl
  have hge := hb.size
  have HB := Lib.hid hq
  clear hb hq
  unfold entV
  go_wp2_with fail
  refine (HM.out _).mono ?_
  rintro e w3 ⟨rfl, hb⟩
  replace HB := Lib.hid (below_then HB.out hb)
  replace z0 := (hb.frozen (World.block_lt_of_cell? _ _ q0)).trans z0
  replace q0 := cell_stays hb q0
  replace q1 := cell_stays hb q1
  replace q2 := cell_stays hb q2
  clear hb
  have HS2 := Lib.hid (HS.out (w3.setCell ⟨w2.heap.size, 0, none⟩ (.int .i64 to)) (HB.out.setCell hge _))
  have HB2 := Lib.hid (show Below w.heap.size w (w3.setCell ⟨w2.heap.size, 0, none⟩ (.int .i64 to)) from HB.out.setCell hge _)
  clear HS HB hge
  go_wp2_with fail
  refine HS2.out.mono ?_
  rintro e1 w4 ⟨rfl, P', hg, hm, ht⟩
  go_wp2
  go_ret2
  exact ⟨rfl, P', hg, hm, (Turn.of_below _ HB2.out).trans ht⟩

theorem Move_any (h : Mp G n w P st) (hN : G.N ≤ 65536) (lba fr to : Int) :
    Calls Try.prog 20 #[ptr P.g 0, .int .i64 lba, .int .i64 fr, .int .i64 to] w fun x w' => x = .returned (setV (moveDo st n G.N lba fr to) (moveOk st n G.N lba to)) ∧ ∃ P' : Pl, P'.g = P.g ∧ Mp G n w' P' (moveSt st n G.N lba fr to) ∧ Turn (P.own n G.N.toNat) (P'.own n G.N.toNat) w w' := by
  have keep : ∀ {w'}, Below w.heap.size w w' → ∃ P' : Pl, P'.g = P.g ∧ Mp G n w' P' st ∧ Turn (P.own n G.N.toNat) (P'.own n G.N.toNat) w w' := fun hb => ⟨P, rfl, h.below hb, Turn.of_below _ hb⟩
  by_cases ht : there lba n
  · by_cases hr : 0 ≤ to ∧ to < G.N
    · by_cases ho : who st n to ≠ -1 ∧ who st n to ≠ lba
      · have e1 : moveOk st n G.N lba to = 13 := by unfold moveOk; rw [if_neg (fun hh => hh ht), if_neg (fun hh => hh hr), if_pos ho]
        have e2 : moveDo st n G.N lba fr to = false := by unfold moveDo; rw [e1]; simp
        have e3 : moveSt st n G.N lba fr to = st := by unfold moveSt; rw [e2]; simp
        rw [e1, e2, e3]
        exact (Move_state h hN lba fr to ht hr.1 hr.2 ho).mono fun x w' hh => ⟨hh.1, keep hh.2⟩
      · have e1 : moveOk st n G.N lba to = 0 := by unfold moveOk; rw [if_neg (fun hh => hh ht), if_neg (fun hh => hh hr), if_neg ho]
        obtain ⟨i, rfl⟩ := Int.eq_ofNat_of_zero_le ht.1
        have hi : i < n := by have := ht.2; omega
        by_cases hs : (st i).a ≠ -1 ∧ (st i).a = fr
        · have e2 : moveDo st n G.N i fr to = true := by unfold moveDo; rw [e1]; exact decide_eq_true ⟨rfl, hs⟩
          have e3 : moveSt st n G.N i fr to = put st i (moved (st i) to) := by unfold moveSt; rw [e2]; simp
          rw [e1, e2, e3]
          exact Move_yes h hN i hi fr to hr.1 hr.2 ho hs.1 hs.2
        · have e2 : moveDo st n G.N i fr to = false := by unfold moveDo; rw [e1]; exact decide_eq_false fun hh => hs hh.2
          have e3 : moveSt st n G.N i fr to = st := by unfold moveSt; rw [e2]; simp
          rw [e1, e2, e3]
          exact (Move_no h hN i hi fr to hr.1 hr.2 ho (by omega)).mono fun x w' hh => ⟨hh.1, keep hh.2⟩
    · have e1 : moveOk st n G.N lba to = 1 := by unfold moveOk; rw [if_neg (fun hh => hh ht), if_pos hr]
      have e2 : moveDo st n G.N lba fr to = false := by unfold moveDo; rw [e1]; simp
      have e3 : moveSt st n G.N lba fr to = st := by unfold moveSt; rw [e2]; simp
      rw [e1, e2, e3]
      exact (Move_arg h lba fr to ht hr).mono fun x w' hh => ⟨hh.1, keep hh.2⟩
  · have e1 : moveOk st n G.N lba to = 2 := by unfold moveOk; rw [if_pos (show ¬ (0 ≤ lba ∧ lba < n) from ht)]
    have e2 : moveDo st n G.N lba fr to = false := by unfold moveDo; rw [e1]; simp
    have e3 : moveSt st n G.N lba fr to = st := by unfold moveSt; rw [e2]; simp
    rw [e1, e2, e3]
    exact (Move_range h lba fr to ht).mono fun x w' hh => ⟨hh.1, keep hh.2⟩

end
end Go.Proofs.Ytpheblblkkclbaa.L2pPkg
