/-
  What the laws of layer 8 call: a page's sectors handed in; awake.
-/
import Derived.Test.YtlmdlhfdacmcnaaNandSect
namespace Go.Proofs.Ytlmdlhfdacmcnaa.NandPkg
open Go.RowKit Nand
set_option maxRecDepth 4000

theorem Own2.lies {w : World} {base : Nat} {e e8 : TypeId} {v : Value} {ls : List (List UInt8)} (h : Own2 w base e e8 v ls) (hl : ∀ x ∈ ls, x.length ≤ 100) :
    ∃ A c, v = .slice A ls.length c ∧ ls.length ≤ c ∧ Lies w (fun b => base ≤ b ∧ b < w.heap.size) A ls.length ls := by
  obtain ⟨vs, h1, h2, h3⟩ := h
  obtain ⟨A, c, rfl, h4, _, h5⟩ := h1.reads
  refine ⟨A, c, by rw [h2], by omega, rfl, fun i hi => ?_⟩
  have hv : i < vs.length := by omega
  obtain ⟨b, rfl, hb1, hb2, hc⟩ := h5 i vs[i] (List.getElem?_eq_getElem hv)
  have ho := h3 i vs[i] ls[i] (List.getElem?_eq_getElem hv) (List.getElem?_eq_getElem hi)
  obtain ⟨A', c', e1, _, _, hs⟩ := ho.span
  refine ⟨b, 0, A', _, c', rfl, ⟨hb1, hb2⟩, by rw [Nat.zero_add, hc, e1], ?_, Lie.of_span hs⟩
  exact hl _ (List.getElem_mem hi)

/-- A page's sectors, handed in. -/
theorem came_of {w : World} {base : Nat} {v1 v2 : Value} {l1 l2 : List (List UInt8)} (h1 : Sect w base v1 l1) (h2 : Sect w base v2 l2) (hl1 : ∀ x ∈ l1, x.length ≤ 100) (hl2 : ∀ x ∈ l2, x.length ≤ 100) (k1 : l1.length ≤ 100) (k2 : l2.length ≤ 100) :
    ∃ A c A2 c2, v1 = .slice A l1.length c ∧ v2 = .slice A2 l2.length c2 ∧ l1.length ≤ c ∧ Came w (fun b => base ≤ b ∧ b < w.heap.size) A l1.length A2 l2.length l1 l2 := by
  obtain ⟨A, c, e1, hc, hs1⟩ := Own2.lies h1 hl1
  obtain ⟨A2, c2, e2, _, hs2⟩ := Own2.lies h2 hl2
  exact ⟨A, c, A2, c2, e1, e2, hc, k1, k2, hs1, hs2, fun b hb => hb.2⟩

theorem secD_len (n : Int) (i : Nat) : (secD n i).length = 16 := part_len _ _ _
theorem secO_len (n : Int) (i : Nat) : (secO n false i).length = 17 := by
  unfold secO
  rw [if_neg (fun h => by cases h.1)]
  exact part_len _ _ _
theorem secO_le (n : Int) (odd : Bool) (i : Nat) : (secO n odd i).length ≤ 17 := by
  unfold secO
  split
  · rw [List.length_take, part_len]
    omega
  · rw [part_len]
    omega

theorem dats_len (n : Int) (k : Nat) : (dats n k).length = k := by simp [dats]
theorem oobs_len (n : Int) (odd : Bool) (k : Nat) : (oobs n odd k).length = k := by simp [oobs]

theorem dats_le (n : Int) (k : Nat) : ∀ x ∈ dats n k, x.length ≤ 100 := fun x hx => by
  obtain ⟨i, _, rfl⟩ := List.mem_map.1 hx
  rw [secD_len]
  omega
theorem oobs_le (n : Int) (odd : Bool) (k : Nat) : ∀ x ∈ oobs n odd k, x.length ≤ 100 := fun x hx => by
  obtain ⟨i, _, rfl⟩ := List.mem_map.1 hx
  have := secO_le n odd i
  omega

theorem few_le (s : Int) : few s ≤ 4 := by unfold few; omega
theorem few_is {G : Shape} (h : G.Ok) : ((few G.s : Nat) : Int) = G.s := by
  have h1 := h.may.2.2.2.2.2.2.2.2
  unfold few
  omega

theorem fit_dats {G : Shape} (h : G.Ok) (n : Int) : fit (dats n (few G.s)) G.s 16 := by
  refine ⟨by rw [dats_len, few_is h], fun x hx => ?_⟩
  obtain ⟨i, _, rfl⟩ := List.mem_map.1 hx
  exact secD_len _ _
theorem fit_oobs {G : Shape} (h : G.Ok) (n : Int) : fit (oobs n false (few G.s)) G.s 17 := by
  refine ⟨by rw [oobs_len, few_is h], fun x hx => ?_⟩
  obtain ⟨i, _, rfl⟩ := List.mem_map.1 hx
  exact secO_len _ _

/-- The page's sectors as the laws hand them in. -/
theorem came_sect {w : World} {base : Nat} {v1 v2 : Value} {n : Int} {odd : Bool} {s : Int} (h1 : Sect w base v1 (dats n (few s))) (h2 : Sect w base v2 (oobs n odd (few s))) :
    ∃ A c A2 c2, v1 = .slice A (few s) c ∧ v2 = .slice A2 (few s) c2 ∧ few s ≤ c ∧ Came w (fun b => base ≤ b ∧ b < w.heap.size) A (few s) A2 (few s) (dats n (few s)) (oobs n odd (few s)) := by
  have := came_of h1 h2 (dats_le _ _) (oobs_le _ _ _) (by rw [dats_len]; have := few_le s; omega) (by rw [oobs_len]; have := few_le s; omega)
  rwa [dats_len, oobs_len] at this

theorem program_good {G : Shape} {st : St} {u b g : Int} {dat oob : List (List UInt8)} (h1 : st.off = false) (h2 : st.may G u b g dat oob = 0) (h3 : Plan.says st.plan = 0) :
    st.program G u b g dat oob = (0, { st with nx := upd st.nx (blk G u b) (g + 1), plan := st.plan.tail, many := st.many + 1, rd := lay G u b g dat oob st.rd G.s.toNat }) := by
  unfold St.program
  rw [if_neg (by rw [h1]; simp), if_neg (fun h => h h2), if_neg (by omega), if_neg (by omega)]

theorem may_good {G : Shape} {st : St} {u b g : Int} {dat oob : List (List UInt8)} (h1 : mayBe G u b g dat oob) (h2 : st.rt (blk G u b) = false) (h3 : g = st.nx (blk G u b)) : st.may G u b g dat oob = 0 := by
  unfold St.may
  rw [if_neg (fun h => h h1), if_neg (by rw [h2]; simp), if_neg (fun h => h h3)]

/-- What was laid is there. -/
theorem lay_at {G : Shape} (h : G.Ok) {u b g : Int} (hh : has G u b) (hg : 0 ≤ g ∧ g < G.p) {dat oob : List (List UInt8)} {rd : Int → Option (List UInt8 × List UInt8)} {m t : Nat} (hm : (m : Int) ≤ G.s) (ht : t < m) :
    lay G u b g dat oob rd m (adr G u b g t) = some (dat.getD t [], oob.getD t []) := by
  induction m with
  | zero => omega
  | succ m ih =>
    simp only [lay]
    by_cases e : t = m
    · subst e
      rw [if_pos rfl]
    · rw [if_neg (fun e2 => e (by
        have hp : ∀ q : Nat, (q : Int) < G.s → Geom.there G.U G.k G.p G.s u b g q := fun q hq => ⟨hh.1, hh.2.1, hh.2.2.1, hh.2.2.2, hg.1, hg.2, by omega, hq⟩
        have := (adr_inj h (hp t (by omega)) (hp m (by omega)) e2).2.2.2
        omega))]
      exact ih (by omega) (by omega)

theorem dats_at (n : Int) {k i : Nat} (h : i < k) : (dats n k).getD i [] = secD n i := by
  simp [dats, List.getD_eq_getElem?_getD, h]
theorem oobs_at (n : Int) (odd : Bool) {k i : Nat} (h : i < k) : (oobs n odd k).getD i [] = secO n odd i := by
  simp [oobs, List.getD_eq_getElem?_getD, h]

def g1 : Shape := ⟨1, 1, 2, 2, 1, 1, 1, 2, 4⟩
theorem g1_ok : g1.Ok := Geom.sizes (c := 1) (l := 1) (k := 2) (p := 2) (s := 1) (by decide)

theorem first5 (h : 0 < (secD 5 0).length) : cellOf ((secD 5 0)[0]'h) = .int .u8 5 := by
  simp only [secD, part, List.getElem_map, List.getElem_range]
  have e : (if 0 < 16 then fD 5 0 0 else 0) = (5 : UInt8) := by decide +kernel
  rw [e]
  rfl

theorem awake_any (w : World) : Calls Try.prog 11 #[] w fun e w' => e = .returned (.bool true) ∧ Below w.heap.size w w' := by
  have hb0 := (Below.refl w.heap.size w).alloc (Nat.le_refl _) (.cells #[.int .i64 1, .int .i64 1, .int .i64 2, .int .i64 2, .int .i64 1] 23)
  have hsz : (w.alloc (.cells #[.int .i64 1, .int .i64 1, .int .i64 2, .int .i64 2, .int .i64 1] 23)).heap.size = w.heap.size + 1 := by simp
  obtain ⟨h0, h1, h2, h3, h4⟩ := geo_new w 23 1 1 2 2 1
  have HG := Lib.hid (geo_new w 23 1 1 2 2 1)
  have HN := Lib.hid (New_any (w := w.alloc (.cells #[.int .i64 1, .int .i64 1, .int .i64 2, .int .i64 2, .int .i64 1] 23)) g1_ok none 0 0 0 [] (by omega) ⟨rfl, fun i hi => absurd hi (by simp)⟩ (Nat.zero_le _))
  have HB := Lib.hid hb0
  clear hb0
  go_enter Try.func11, Try.ntmps11
  go_wp2_with fail
  refine HN.out.mono ?_
  rintro e w2 ⟨hor, hb⟩
  rcases hor with ⟨_, P, rfl, hd, ho⟩ | ⟨hno, _⟩
  rotate_left
  · exact absurd (fun z hz => by simp at hz) hno
  rw [hsz] at ho
  obtain ⟨k0, k1, k2, k3, k4⟩ := geo_keep HG.out hb
  replace HB := Lib.hid (below_then HB.out hb)
  have HD := Lib.hid hd
  have HO := Lib.hid ho
  clear hd ho hb h0 h1 h2 h3 h4 hsz
  go_wp2_with fail
  refine (Sectors_any 1 1 2 2 1 5 false w2).mono ?_
  rintro e w3 ⟨v1, v2, rfl, hs1, hs2, hb⟩
  obtain ⟨A, c, A2, c2, rfl, rfl, hc, hcame⟩ := came_sect hs1 hs2
  have hd := HD.out.below hb
  have HP := Lib.hid (Program_any g1_ok hd 0 0 0 A A2 (few 1) (few 1) c c2 (dats 5 (few 1)) (oobs 5 false (few 1)) hcame (fun b hb2 ho => by have := HD.out.lt b ho; omega) hc (by show (0 : Int) ≤ 0; omega) (by show (0 : Int) < _; omega))
  replace HB := Lib.hid (below_then HB.out hb)
  have hmay : (fresh (rtOf [] ([] : List Int).length)).may g1 0 0 0 (dats 5 (few 1)) (oobs 5 false (few 1)) = 0 := may_good ⟨by decide, by decide, by decide, fit_dats g1_ok 5, fit_oobs g1_ok 5⟩ rfl rfl
  have hprog := program_good (G := g1) (st := fresh (rtOf [] ([] : List Int).length)) rfl hmay rfl
  rw [hprog] at HP
  obtain ⟨st, hst⟩ : ∃ st : St, st = { fresh (rtOf [] ([] : List Int).length) with nx := upd (fresh (rtOf [] ([] : List Int).length)).nx (blk g1 0 0) (0 + 1), plan := (fresh (rtOf [] ([] : List Int).length)).plan.tail, many := (fresh (rtOf [] ([] : List Int).length)).many + 1, rd := lay g1 0 0 0 (dats 5 (few 1)) (oobs 5 false (few 1)) (fresh (rtOf [] ([] : List Int).length)).rd g1.s.toNat } := ⟨_, rfl⟩
  have hread : st.reads g1 0 = (secD 5 0, secO 5 false 0, 0) := by
    have e : st.rd 0 = some (secD 5 0, secO 5 false 0) := by
      rw [hst]
      have h := lay_at g1_ok (u := 0) (b := 0) (g := 0) (by decide) (by decide) (dat := dats 5 (few 1)) (oob := oobs 5 false (few 1)) (rd := (fresh (rtOf [] ([] : List Int).length)).rd) (m := 1) (t := 0) (by decide) (by omega)
      rw [dats_at 5 (by decide), oobs_at 5 false (by decide)] at h
      exact h
    have eo : st.off = false := by rw [hst]; rfl
    unfold St.reads
    rw [if_neg (by rw [eo]; simp), if_neg (fun h => h (by decide)), e]
  rw [← hst] at HP
  have HRD := Lib.hid hread
  clear hs1 hs2 hb hcame hd hmay hprog hread hst
  generalize few 1 = f at *
  go_wp2_with fail
  refine HP.out.mono ?_
  rintro e w4 ⟨rfl, P', hg, hd, ht⟩
  have HR := Lib.hid (Read_any g1_ok hd 0)
  rw [HRD.out] at HR
  rw [hg] at HR
  replace HB := Lib.hid (HB.out.trans (ht.below (B := w.heap.size) (fun b hb => Nat.le_trans (Nat.le_succ _) (HO.out b hb)) HB.out.size))
  clear hd ht
  go_wp2_with fail
  refine HR.out.mono ?_
  rintro e w5 ⟨v, v', rfl, ho1, ho2, hb⟩
  obtain ⟨b1, d1, rfl, _, _, _⟩ := ho1.form (by show 0 < (secD 5 0).length; rw [secD_len]; omega)
  obtain ⟨b2, d2, rfl, _, _, _⟩ := ho2.form (by show 0 < (secO 5 false 0).length; rw [secO_len]; omega)
  have hx := (ho1.cell (i := 0) (by show 0 < (secD 5 0).length; rw [secD_len]; omega)).1
  have e1 := first5 (by rw [secD_len]; omega)
  have e2 : (secD 5 0).length = 16 := secD_len _ _
  have e3 : (secO 5 false 0).length = 17 := secO_len _ _
  replace hx : w5.cell? ⟨b1, 0, none⟩ = some (.int .u8 5) := hx.trans (congrArg some e1)
  replace HB := Lib.hid (below_then HB.out hb)
  clear ho1 ho2 hb e1
  dsimp only
  rw [e2, e3]
  go_wp2
  go_ret
  exact ⟨rfl, HB.out⟩

end Go.Proofs.Ytlmdlhfdacmcnaa.NandPkg
