/-
  What package ring's generic 'places' does with each test that it is handed.
-/
import Derived.Test.YtecmmihobojjpaaRingAt
namespace Go.Proofs.Ytecmmihobojjpaa.RingPkg
open Go.RowKit Ring
set_option maxRecDepth 4000

theorem infoI : intInfo Try.prog 3 := ⟨_, rfl, by kernel_rfl, by kernel_rfl, by kernel_rfl⟩

/-- Places as ints. -/
def nums (l : List Nat) : List Int := l.map Int.ofNat

theorem nums_snoc (l : List Nat) (k : Nat) : nums (l ++ [k]) = nums l ++ [(k : Int)] := by simp [nums]
theorem nums_len (l : List Nat) : (nums l).length = l.length := by simp [nums]

set_option maxHeartbeats 1000000 in
theorem places_waits  (p : Row → Bool) (v : Value) (rs : List Row) (many : Int) (w : World) (hrow : OwnR w 0 66 6 v (rs.map Row.cells)) (hl : rs.length ≤ 1000000000000) (hvs : ∀ r ∈ rs, ∃ A n c, r.v = .slice A n c)
    (his : ∀ r ∈ rs, ∀ w1, Below w.heap.size w w1 → Calls Try.prog 32 #[rowV r] w1 fun e w' => e = .returned (.bool (p r)) ∧ Below w1.heap.size w1 w') :
    Calls Try.prog 48 #[v, .int .i64 many, .func (.func 32) #[] #[]] w fun e w' => ∃ u, e = .returned u ∧ OwnI w' w.heap.size 3 u (nums ((sel p rs).take many.toNat)) ∧ Below w.heap.size w w' := by
  obtain ⟨A, c, hv, hnc, hcm, hg⟩ := hrow.form
  rw [List.length_map] at hv hnc hg
  subst hv
  have HROW := Lib.hid hrow
  have HIS := Lib.hid his
  have HVS := Lib.hid hvs
  have HG := Lib.hid hg
  have hc63 : c ≤ 9223372036854775807 := hcm
  obtain ⟨n, hn⟩ : ∃ n, n = rs.length := ⟨_, rfl⟩
  rw [← hn] at hnc hl HG HROW ⊢
  have HN := Lib.hid hn.symm
  clear hrow his hvs hg hcm hn
  go_enter Try.func48, Try.ntmps48
  go_wp2
  go_loopw [7, 12] (fun x i wr => ∃ k : Nat, k ≤ n ∧ i = .int .i64 k ∧ OwnI wr w.heap.size 3 x (nums (sel p (rs.take k))) ∧ (sel p (rs.take k)).length ≤ many.toNat ∧ Below w.heap.size w wr) (fun _ i _ => n - (intOf i).toNat)
  case atStart => exact ⟨0, by omega, rfl, ownI_nil _ _ _, by simp [sel], Below.refl _ _⟩
  case round =>
    obtain ⟨k, hk, rfl, ho, hlen, hb⟩ := hrel
    have HO := Lib.hid ho
    have HB := Lib.hid hb
    have hf : (sel p (rs.take k)).length ≤ k := Nat.le_trans (sel_len p _) (List.length_take_le _ _)
    obtain ⟨A2, m, c2, rfl⟩ := ho.form
    have hm : m = (sel p (rs.take k)).length := by have := ho.len; rw [nums_len] at this; exact this.symm
    have HM := Lib.hid hm
    rw [← hm] at hlen hf
    clear ho hb hm
    by_cases hlt : k < n
    · obtain ⟨r, hr⟩ : ∃ r, rs[k]? = some r := ⟨_, List.getElem?_eq_getElem (by rw [HN.out]; exact hlt)⟩
      have HR := Lib.hid hr
      clear hr
      obtain ⟨g, rfl⟩ := HG.out (by omega)
      have hrw := HROW.out.below HB.out
      have hgl : g < wr.heap.size := hrw.lt g rfl
      have hcl : ∀ (j : Nat) x, r.cells[j]? = some x → wr.cell? ⟨g, k * 6 + j, none⟩ = some x := fun j x hx => (hrw.cell (by rw [List.getElem?_map, HR.out]; rfl) hx).1
      have q0 := hcl 0 _ rfl
      have q1 := hcl 1 _ rfl
      have q2 := hcl 2 _ rfl
      have q3 := hcl 3 _ rfl
      have q4 := hcl 4 _ rfl
      have q5 := hcl 5 _ rfl
      rw [Nat.add_zero] at q0
      obtain ⟨rA, rn, rc, hrv⟩ := HVS.out r (List.mem_of_getElem? HR.out)
      rw [hrv] at q3
      have HRV := Lib.hid hrv
      clear hrw hcl hrv
      go_upto_region 5 with fail
      refine at_wld ?_
      intro Y hY
      have HS : Hid (Six Y wr.heap.size 66 (.int .i64 r.s.k) (.int .i64 r.s.l) (.int .i64 r.s.s) (.slice rA rn rc) (.int .i64 r.s.f) (.int .i64 r.q)) := Lib.hid (by
        rw [hY]
        exact Six.new wr 66 (.int .i64 r.s.k) (.int .i64 r.s.l) (.int .i64 r.s.s) (.slice rA rn rc) (.int .i64 r.s.f) (.int .i64 r.q))
      replace HO : Hid (OwnI Y w.heap.size 3 (.slice A2 m c2) (nums (sel p (rs.take k)))) := Lib.hid (by
        rw [hY]
        exact HO.out.alloc _)
      replace HB : Hid (Below w.heap.size w Y) := Lib.hid (by
        rw [hY]
        exact HB.out.alloc HB.out.size _)
      clear hY q0 q1 q2 q3 q4 q5
      by_cases hmany : many ≤ (m : Int)
      · go_wp2
        go_ret
        refine ⟨_, rfl, ?_, HB.out⟩
        rw [sel_first p rs many.toNat k (by rw [← HM.out]; omega), List.take_of_length_le (by rw [← HM.out]; exact hlen)]
        exact HO.out
      · obtain ⟨q0, q1, q2, q3, q4, q5⟩ := HS.out.cells
        have hI := HIS.out r (List.mem_of_getElem? HR.out) Y HB.out
        simp only [rowV, HRV.out] at hI
        have hst := sel_take p rs k r HR.out
        cases hp : p r with
        | false =>
          rw [hp] at hI hst
          have HST := Lib.hid hst
          clear hst hp
          go_wp2_with fail
          refine hI.mono ?_
          rintro e Z ⟨rfl, hb⟩
          replace HO := Lib.hid (HO.out.below hb)
          replace HB := Lib.hid (below_on HB.out hb HB.out.size)
          clear hb hI q0 q1 q2 q3 q4 q5
          go_wp2
          go_roundw
          case rel =>
            have hs : sel p (rs.take (k + 1)) = sel p (rs.take k) := by rw [HST.out]; simp
            exact ⟨k + 1, by omega, by go_num, by rw [hs]; exact HO.out, by rw [hs, ← HM.out]; exact hlen, HB.out⟩
          case measure => simp [intOf]; omega
        | true =>
          rw [hp] at hI hst
          have HST := Lib.hid hst
          clear hst hp
          go_wp2_with fail
          refine hI.mono ?_
          rintro e Z ⟨rfl, hb⟩
          replace HO := Lib.hid (HO.out.below hb)
          replace HB := Lib.hid (below_on HB.out hb HB.out.size)
          have hml : (nums (sel p (rs.take k))).length ≤ 1000000000000 := by rw [nums_len, ← HM.out]; omega
          clear hb hI q0 q1 q2 q3 q4 q5
          go_wp2_with (at_builtin; refine wpList_append_int Z rfl _ _ _ rfl w.heap.size 3 Try.underlying41 infoI (.slice A2 m c2) (nums (sel p (rs.take k))) rfl HO.out (k : Int) rfl hml HB.out.size ?_)
          intro v3 w4 ho3 hg3
          replace HB := Lib.hid ((HB.out.alloc HB.out.size _).grown hg3 (by have := HB.out.size; simp; omega) HO.out.block)
          replace HO := Lib.hid ho3
          clear ho3 hg3 hml
          go_wp2
          go_roundw
          case rel =>
            have hs : sel p (rs.take (k + 1)) = sel p (rs.take k) ++ [k] := by rw [HST.out]; simp
            refine ⟨k + 1, by omega, by go_num, by rw [hs, nums_snoc]; exact HO.out, ?_, HB.out⟩
            rw [hs, List.length_append, ← HM.out]
            simp
            omega
          case measure => simp [intOf]; omega
    · have HK := Lib.hid (show k = n by omega)
      go_wp2
      go_ret
      refine ⟨_, rfl, ?_, HB.out⟩
      have h := HO.out
      rw [HK.out, List.take_of_length_le (by rw [HN.out]; exact Nat.le_refl _)] at h
      rw [List.take_of_length_le]
      · exact h
      · have h2 := HM.out
        rw [HK.out, List.take_of_length_le (by rw [HN.out]; exact Nat.le_refl _)] at h2
        omega

set_option maxHeartbeats 1000000 in
theorem places_left  (p : Row → Bool) (v : Value) (rs : List Row) (many : Int) (w : World) (hrow : OwnR w 0 66 6 v (rs.map Row.cells)) (hl : rs.length ≤ 1000000000000) (hvs : ∀ r ∈ rs, ∃ A n c, r.v = .slice A n c)
    (his : ∀ r ∈ rs, ∀ w1, Below w.heap.size w w1 → Calls Try.prog 51 #[rowV r] w1 fun e w' => e = .returned (.bool (p r)) ∧ Below w1.heap.size w1 w') :
    Calls Try.prog 48 #[v, .int .i64 many, .func (.func 51) #[] #[]] w fun e w' => ∃ u, e = .returned u ∧ OwnI w' w.heap.size 3 u (nums ((sel p rs).take many.toNat)) ∧ Below w.heap.size w w' := by
  obtain ⟨A, c, hv, hnc, hcm, hg⟩ := hrow.form
  rw [List.length_map] at hv hnc hg
  subst hv
  have HROW := Lib.hid hrow
  have HIS := Lib.hid his
  have HVS := Lib.hid hvs
  have HG := Lib.hid hg
  have hc63 : c ≤ 9223372036854775807 := hcm
  obtain ⟨n, hn⟩ : ∃ n, n = rs.length := ⟨_, rfl⟩
  rw [← hn] at hnc hl HG HROW ⊢
  have HN := Lib.hid hn.symm
  clear hrow his hvs hg hcm hn
  go_enter Try.func48, Try.ntmps48
  go_wp2
  go_loopw [7, 12] (fun x i wr => ∃ k : Nat, k ≤ n ∧ i = .int .i64 k ∧ OwnI wr w.heap.size 3 x (nums (sel p (rs.take k))) ∧ (sel p (rs.take k)).length ≤ many.toNat ∧ Below w.heap.size w wr) (fun _ i _ => n - (intOf i).toNat)
  case atStart => exact ⟨0, by omega, rfl, ownI_nil _ _ _, by simp [sel], Below.refl _ _⟩
  case round =>
    obtain ⟨k, hk, rfl, ho, hlen, hb⟩ := hrel
    have HO := Lib.hid ho
    have HB := Lib.hid hb
    have hf : (sel p (rs.take k)).length ≤ k := Nat.le_trans (sel_len p _) (List.length_take_le _ _)
    obtain ⟨A2, m, c2, rfl⟩ := ho.form
    have hm : m = (sel p (rs.take k)).length := by have := ho.len; rw [nums_len] at this; exact this.symm
    have HM := Lib.hid hm
    rw [← hm] at hlen hf
    clear ho hb hm
    by_cases hlt : k < n
    · obtain ⟨r, hr⟩ : ∃ r, rs[k]? = some r := ⟨_, List.getElem?_eq_getElem (by rw [HN.out]; exact hlt)⟩
      have HR := Lib.hid hr
      clear hr
      obtain ⟨g, rfl⟩ := HG.out (by omega)
      have hrw := HROW.out.below HB.out
      have hgl : g < wr.heap.size := hrw.lt g rfl
      have hcl : ∀ (j : Nat) x, r.cells[j]? = some x → wr.cell? ⟨g, k * 6 + j, none⟩ = some x := fun j x hx => (hrw.cell (by rw [List.getElem?_map, HR.out]; rfl) hx).1
      have q0 := hcl 0 _ rfl
      have q1 := hcl 1 _ rfl
      have q2 := hcl 2 _ rfl
      have q3 := hcl 3 _ rfl
      have q4 := hcl 4 _ rfl
      have q5 := hcl 5 _ rfl
      rw [Nat.add_zero] at q0
      obtain ⟨rA, rn, rc, hrv⟩ := HVS.out r (List.mem_of_getElem? HR.out)
      rw [hrv] at q3
      have HRV := Lib.hid hrv
      clear hrw hcl hrv
      go_upto_region 5 with fail
      refine at_wld ?_
      intro Y hY
      have HS : Hid (Six Y wr.heap.size 66 (.int .i64 r.s.k) (.int .i64 r.s.l) (.int .i64 r.s.s) (.slice rA rn rc) (.int .i64 r.s.f) (.int .i64 r.q)) := Lib.hid (by
        rw [hY]
        exact Six.new wr 66 (.int .i64 r.s.k) (.int .i64 r.s.l) (.int .i64 r.s.s) (.slice rA rn rc) (.int .i64 r.s.f) (.int .i64 r.q))
      replace HO : Hid (OwnI Y w.heap.size 3 (.slice A2 m c2) (nums (sel p (rs.take k)))) := Lib.hid (by
        rw [hY]
        exact HO.out.alloc _)
      replace HB : Hid (Below w.heap.size w Y) := Lib.hid (by
        rw [hY]
        exact HB.out.alloc HB.out.size _)
      clear hY q0 q1 q2 q3 q4 q5
      by_cases hmany : many ≤ (m : Int)
      · go_wp2
        go_ret
        refine ⟨_, rfl, ?_, HB.out⟩
        rw [sel_first p rs many.toNat k (by rw [← HM.out]; omega), List.take_of_length_le (by rw [← HM.out]; exact hlen)]
        exact HO.out
      · obtain ⟨q0, q1, q2, q3, q4, q5⟩ := HS.out.cells
        have hI := HIS.out r (List.mem_of_getElem? HR.out) Y HB.out
        simp only [rowV, HRV.out] at hI
        have hst := sel_take p rs k r HR.out
        cases hp : p r with
        | false =>
          rw [hp] at hI hst
          have HST := Lib.hid hst
          clear hst hp
          go_wp2_with fail
          refine hI.mono ?_
          rintro e Z ⟨rfl, hb⟩
          replace HO := Lib.hid (HO.out.below hb)
          replace HB := Lib.hid (below_on HB.out hb HB.out.size)
          clear hb hI q0 q1 q2 q3 q4 q5
          go_wp2
          go_roundw
          case rel =>
            have hs : sel p (rs.take (k + 1)) = sel p (rs.take k) := by rw [HST.out]; simp
            exact ⟨k + 1, by omega, by go_num, by rw [hs]; exact HO.out, by rw [hs, ← HM.out]; exact hlen, HB.out⟩
          case measure => simp [intOf]; omega
        | true =>
          rw [hp] at hI hst
          have HST := Lib.hid hst
          clear hst hp
          go_wp2_with fail
          refine hI.mono ?_
          rintro e Z ⟨rfl, hb⟩
          replace HO := Lib.hid (HO.out.below hb)
          replace HB := Lib.hid (below_on HB.out hb HB.out.size)
          have hml : (nums (sel p (rs.take k))).length ≤ 1000000000000 := by rw [nums_len, ← HM.out]; omega
          clear hb hI q0 q1 q2 q3 q4 q5
          go_wp2_with (at_builtin; refine wpList_append_int Z rfl _ _ _ rfl w.heap.size 3 Try.underlying41 infoI (.slice A2 m c2) (nums (sel p (rs.take k))) rfl HO.out (k : Int) rfl hml HB.out.size ?_)
          intro v3 w4 ho3 hg3
          replace HB := Lib.hid ((HB.out.alloc HB.out.size _).grown hg3 (by have := HB.out.size; simp; omega) HO.out.block)
          replace HO := Lib.hid ho3
          clear ho3 hg3 hml
          go_wp2
          go_roundw
          case rel =>
            have hs : sel p (rs.take (k + 1)) = sel p (rs.take k) ++ [k] := by rw [HST.out]; simp
            refine ⟨k + 1, by omega, by go_num, by rw [hs, nums_snoc]; exact HO.out, ?_, HB.out⟩
            rw [hs, List.length_append, ← HM.out]
            simp
            omega
          case measure => simp [intOf]; omega
    · have HK := Lib.hid (show k = n by omega)
      go_wp2
      go_ret
      refine ⟨_, rfl, ?_, HB.out⟩
      have h := HO.out
      rw [HK.out, List.take_of_length_le (by rw [HN.out]; exact Nat.le_refl _)] at h
      rw [List.take_of_length_le]
      · exact h
      · have h2 := HM.out
        rw [HK.out, List.take_of_length_le (by rw [HN.out]; exact Nat.le_refl _)] at h2
        omega

set_option maxHeartbeats 1000000 in
theorem places_mine (cap : Value) (p : Row → Bool) (v : Value) (rs : List Row) (many : Int) (w : World) (hrow : OwnR w 0 66 6 v (rs.map Row.cells)) (hl : rs.length ≤ 1000000000000) (hvs : ∀ r ∈ rs, ∃ A n c, r.v = .slice A n c)
    (his : ∀ r ∈ rs, ∀ w1, Below w.heap.size w w1 → Calls Try.prog 47 #[rowV r, cap] w1 fun e w' => e = .returned (.bool (p r)) ∧ Below w1.heap.size w1 w') :
    Calls Try.prog 48 #[v, .int .i64 many, .func (.func 47) #[] #[cap]] w fun e w' => ∃ u, e = .returned u ∧ OwnI w' w.heap.size 3 u (nums ((sel p rs).take many.toNat)) ∧ Below w.heap.size w w' := by
  obtain ⟨A, c, hv, hnc, hcm, hg⟩ := hrow.form
  rw [List.length_map] at hv hnc hg
  subst hv
  have HROW := Lib.hid hrow
  have HIS := Lib.hid his
  have HVS := Lib.hid hvs
  have HG := Lib.hid hg
  have hc63 : c ≤ 9223372036854775807 := hcm
  obtain ⟨n, hn⟩ : ∃ n, n = rs.length := ⟨_, rfl⟩
  rw [← hn] at hnc hl HG HROW ⊢
  have HN := Lib.hid hn.symm
  clear hrow his hvs hg hcm hn
  go_enter Try.func48, Try.ntmps48
  go_wp2
  go_loopw [7, 12] (fun x i wr => ∃ k : Nat, k ≤ n ∧ i = .int .i64 k ∧ OwnI wr w.heap.size 3 x (nums (sel p (rs.take k))) ∧ (sel p (rs.take k)).length ≤ many.toNat ∧ Below w.heap.size w wr) (fun _ i _ => n - (intOf i).toNat)
  case atStart => exact ⟨0, by omega, rfl, ownI_nil _ _ _, by simp [sel], Below.refl _ _⟩
  case round =>
    obtain ⟨k, hk, rfl, ho, hlen, hb⟩ := hrel
    have HO := Lib.hid ho
    have HB := Lib.hid hb
    have hf : (sel p (rs.take k)).length ≤ k := Nat.le_trans (sel_len p _) (List.length_take_le _ _)
    obtain ⟨A2, m, c2, rfl⟩ := ho.form
    have hm : m = (sel p (rs.take k)).length := by have := ho.len; rw [nums_len] at this; exact this.symm
    have HM := Lib.hid hm
    rw [← hm] at hlen hf
    clear ho hb hm
    by_cases hlt : k < n
    · obtain ⟨r, hr⟩ : ∃ r, rs[k]? = some r := ⟨_, List.getElem?_eq_getElem (by rw [HN.out]; exact hlt)⟩
      have HR := Lib.hid hr
      clear hr
      obtain ⟨g, rfl⟩ := HG.out (by omega)
      have hrw := HROW.out.below HB.out
      have hgl : g < wr.heap.size := hrw.lt g rfl
      have hcl : ∀ (j : Nat) x, r.cells[j]? = some x → wr.cell? ⟨g, k * 6 + j, none⟩ = some x := fun j x hx => (hrw.cell (by rw [List.getElem?_map, HR.out]; rfl) hx).1
      have q0 := hcl 0 _ rfl
      have q1 := hcl 1 _ rfl
      have q2 := hcl 2 _ rfl
      have q3 := hcl 3 _ rfl
      have q4 := hcl 4 _ rfl
      have q5 := hcl 5 _ rfl
      rw [Nat.add_zero] at q0
      obtain ⟨rA, rn, rc, hrv⟩ := HVS.out r (List.mem_of_getElem? HR.out)
      rw [hrv] at q3
      have HRV := Lib.hid hrv
      clear hrw hcl hrv
      go_upto_region 5 with fail
      refine at_wld ?_
      intro Y hY
      have HS : Hid (Six Y wr.heap.size 66 (.int .i64 r.s.k) (.int .i64 r.s.l) (.int .i64 r.s.s) (.slice rA rn rc) (.int .i64 r.s.f) (.int .i64 r.q)) := Lib.hid (by
        rw [hY]
        exact Six.new wr 66 (.int .i64 r.s.k) (.int .i64 r.s.l) (.int .i64 r.s.s) (.slice rA rn rc) (.int .i64 r.s.f) (.int .i64 r.q))
      replace HO : Hid (OwnI Y w.heap.size 3 (.slice A2 m c2) (nums (sel p (rs.take k)))) := Lib.hid (by
        rw [hY]
        exact HO.out.alloc _)
      replace HB : Hid (Below w.heap.size w Y) := Lib.hid (by
        rw [hY]
        exact HB.out.alloc HB.out.size _)
      clear hY q0 q1 q2 q3 q4 q5
      by_cases hmany : many ≤ (m : Int)
      · go_wp2
        go_ret
        refine ⟨_, rfl, ?_, HB.out⟩
        rw [sel_first p rs many.toNat k (by rw [← HM.out]; omega), List.take_of_length_le (by rw [← HM.out]; exact hlen)]
        exact HO.out
      · obtain ⟨q0, q1, q2, q3, q4, q5⟩ := HS.out.cells
        have hI := HIS.out r (List.mem_of_getElem? HR.out) Y HB.out
        simp only [rowV, HRV.out] at hI
        have hst := sel_take p rs k r HR.out
        cases hp : p r with
        | false =>
          rw [hp] at hI hst
          have HST := Lib.hid hst
          clear hst hp
          go_wp2_with fail
          refine hI.mono ?_
          rintro e Z ⟨rfl, hb⟩
          replace HO := Lib.hid (HO.out.below hb)
          replace HB := Lib.hid (below_on HB.out hb HB.out.size)
          clear hb hI q0 q1 q2 q3 q4 q5
          go_wp2
          go_roundw
          case rel =>
            have hs : sel p (rs.take (k + 1)) = sel p (rs.take k) := by rw [HST.out]; simp
            exact ⟨k + 1, by omega, by go_num, by rw [hs]; exact HO.out, by rw [hs, ← HM.out]; exact hlen, HB.out⟩
          case measure => simp [intOf]; omega
        | true =>
          rw [hp] at hI hst
          have HST := Lib.hid hst
          clear hst hp
          go_wp2_with fail
          refine hI.mono ?_
          rintro e Z ⟨rfl, hb⟩
          replace HO := Lib.hid (HO.out.below hb)
          replace HB := Lib.hid (below_on HB.out hb HB.out.size)
          have hml : (nums (sel p (rs.take k))).length ≤ 1000000000000 := by rw [nums_len, ← HM.out]; omega
          clear hb hI q0 q1 q2 q3 q4 q5
          go_wp2_with (at_builtin; refine wpList_append_int Z rfl _ _ _ rfl w.heap.size 3 Try.underlying41 infoI (.slice A2 m c2) (nums (sel p (rs.take k))) rfl HO.out (k : Int) rfl hml HB.out.size ?_)
          intro v3 w4 ho3 hg3
          replace HB := Lib.hid ((HB.out.alloc HB.out.size _).grown hg3 (by have := HB.out.size; simp; omega) HO.out.block)
          replace HO := Lib.hid ho3
          clear ho3 hg3 hml
          go_wp2
          go_roundw
          case rel =>
            have hs : sel p (rs.take (k + 1)) = sel p (rs.take k) ++ [k] := by rw [HST.out]; simp
            refine ⟨k + 1, by omega, by go_num, by rw [hs, nums_snoc]; exact HO.out, ?_, HB.out⟩
            rw [hs, List.length_append, ← HM.out]
            simp
            omega
          case measure => simp [intOf]; omega
    · have HK := Lib.hid (show k = n by omega)
      go_wp2
      go_ret
      refine ⟨_, rfl, ?_, HB.out⟩
      have h := HO.out
      rw [HK.out, List.take_of_length_le (by rw [HN.out]; exact Nat.le_refl _)] at h
      rw [List.take_of_length_le]
      · exact h
      · have h2 := HM.out
        rw [HK.out, List.take_of_length_le (by rw [HN.out]; exact Nat.le_refl _)] at h2
        omega

end Go.Proofs.Ytecmmihobojjpaa.RingPkg
