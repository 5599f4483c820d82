/-
  What package nand does with its sectors: store, forget.
-/
import Derived.Test.YtlmdlhfdacmcnaaNandMay
import Derived.Deep.RegionHeld3
namespace Go.Proofs.Ytlmdlhfdacmcnaa.NandPkg
open Go.RowKit Nand
set_option maxRecDepth 4000

theorem held3_keep {w w' : World} {a b c : Addr} {x y z : Value} (h : w.cell? a = some x ∧ w.cell? b = some y ∧ w.cell? c = some z) (hb : Below w.heap.size w w') : w'.cell? a = some x ∧ w'.cell? b = some y ∧ w'.cell? c = some z :=
  ⟨cell_stays hb h.1, cell_stays hb h.2.1, cell_stays hb h.2.2⟩

theorem held3_grown {w w' : World} {a b c : Addr} {x y z : Value} {r : Nat} (h : w.cell? a = some x ∧ w.cell? b = some y ∧ w.cell? c = some z) (hg : w.grownBy w' (some r)) (ha : a.block ≠ r) (hb : b.block ≠ r) (hc : c.block ≠ r) : w'.cell? a = some x ∧ w'.cell? b = some y ∧ w'.cell? c = some z :=
  ⟨hg.cell h.1 (fun e => ha (by injection e)), hg.cell h.2.1 (fun e => hb (by injection e)), hg.cell h.2.2 (fun e => hc (by injection e))⟩

theorem Sects.put {w : World} {D : Nat → Prop} {rd : Int → Option (List UInt8 × List UInt8)} {m : Int → Option Value} (h : Sects w D rd m) (a : Int) {A A' : Option Addr} {n n' c c' : Nat} {x y : List UInt8} (hn : n ≤ 100) (hn' : n' ≤ 100) (hx : Lie w D A n x) (hy : Lie w D A' n' y) :
    Sects w D (fun b => if b = a then some (x, y) else rd b) (fun b => if b = a then some (.agg #[.slice A n c, .slice A' n' c']) else m b) := fun b => by
  by_cases e : b = a
  · simp only [if_pos e]
    refine ⟨(fun h => by cases h), fun x2 y2 h => ?_⟩
    injection h with h
    injection h with h1 h2
    subst h1 h2
    exact ⟨A, n, c, A', n', c', rfl, hn, hn', hx, hy⟩
  · simp only [if_neg e]
    exact h b

theorem Sects.drop {w : World} {D : Nat → Prop} {rd : Int → Option (List UInt8 × List UInt8)} {m : Int → Option Value} (h : Sects w D rd m) (a : Int) :
    Sects w D (fun b => if b = a then none else rd b) (fun b => if b = a then none else m b) := fun b => by
  by_cases e : b = a
  · simp only [if_pos e]
    exact ⟨(fun _ => by trivial), fun x2 y2 h => by cases h⟩
  · simp only [if_neg e]
    exact h b

section
variable {G : Shape} {w : World} {P : Pl} {st : St} {D : Nat → Prop}

theorem store_any (hG : G.Ok) (h : Dev G w P st) (u b g : Int) (hh : has G u b) (hg0 : 0 ≤ g) (hg1 : g < G.p) (A A2 : Option Addr) (n n2 c c2 : Nat) (dat oob : List (List UInt8)) (hc : Came w D A n A2 n2 dat oob) (hD : ∀ b, D b → ¬ P.own b) (hns : (n : Int) ≤ G.s) (hnn : n ≤ n2) :
    Calls Try.prog 53 #[ptr P.g, .int .i64 u, .int .i64 b, .int .i64 g, .slice A n c, .slice A2 n2 c2] w fun e w' => e = .returned (.tuple #[]) ∧
      ∃ D', Dev G w' { P with D := D' } { st with rd := lay G u b g dat oob st.rd n } ∧ Turn P.own (Pl.own { P with D := D' }) w w' := by
  have hn := hc.few
  have H := Lib.hid h
  have HC := Lib.hid hc
  have HD := Lib.hid hD
  have HG := Lib.hid hG
  have HP : Hid (∀ k : Nat, k < n → Geom.there G.U G.k G.p G.s u b g (k : Int)) := Lib.hid (fun k hk => ⟨hh.1, hh.2.1, hh.2.2.1, hh.2.2.2, hg0, hg1, by omega, by omega⟩)
  clear h hc hD hG hg0 hg1 hh
  go_enter Try.func53, Try.ntmps53
  go_wp2
  go_loopw [15] (fun i wr => ∃ k : Nat, i = .int .i64 k ∧ k ≤ n ∧ ∃ D', Dev G wr { P with D := D' } { st with rd := lay G u b g dat oob st.rd k } ∧ Turn P.own (Pl.own { P with D := D' }) w wr) (fun i _ => n - (intOf i).toNat)
  case atStart => exact ⟨0, rfl, by omega, P.D, H.out, Turn.refl _ _⟩
  case round =>
    obtain ⟨k, rfl, hk, D', hd, ht⟩ := hrel
    have HD2 := Lib.hid hd
    have HT := Lib.hid ht
    clear hd ht
    by_cases hlt : k < n
    · have hc := HC.out.turn HT.out HD.out
      obtain ⟨b1, o1, A1, n1, c1, xs, rfl, hb1, hc1, hn1, hl1, hx⟩ := hc.dat.at_ hlt
      obtain ⟨b2, o2, A3, n3, c3, ys, rfl, hb2, hc2, hn3, hl2, hy⟩ := hc.oob.at_ (show k < n2 by omega)
      have h8 : wr.cell? ⟨P.g, 8, none⟩ = some (.map (some P.gm)) := HD2.out.cells.2.2.2.2.2.2.2.2.1
      have HB : Hid (Below wr.heap.size wr wr.drew) := Lib.hid (Below.refl _ _).drew
      have HADR := Lib.hid (fun X (hb : Below wr.heap.size wr X) => address_ok HG.out (HD2.out.below hb) u b g (k : Int) (HP.out k hlt))
      have HCL1 := Lib.hid (fun X (hb : Below wr.heap.size wr X) => PlanPkg.clone_any A1 n1 c1 wr.heap.size xs X (by omega) (bytes_keep (hl1.bytes hc.lt) hb) hb.size)
      have HCL2 := Lib.hid (fun X (hb : Below wr.heap.size wr X) => PlanPkg.clone_any A3 n3 c3 wr.heap.size ys X (by omega) (bytes_keep (hl2.bytes hc.lt) hb) hb.size)
      have HX := Lib.hid hx
      have HY := Lib.hid hy
      have HL1 := Lib.hid hl1.1
      have HL2 := Lib.hid hl2.1
      have HAB := Lib.hid (adr_bd HG.out (HP.out k hlt))
      obtain ⟨a, ha⟩ : ∃ a, a = adr G u b g (k : Int) := ⟨_, rfl⟩
      rw [← ha] at HADR HAB
      have HA := Lib.hid ha
      have hab0 : 0 ≤ a := HAB.out.1
      have hab1 : a < (G.N.toNat : Int) := by have := HAB.out.2; omega
      have hab2 : G.N.toNat ≤ 1000000 := by have := HG.out.n1; omega
      have hkn2 : (k : Int) < (n2 : Int) := by omega
      have hne0 : P.g ≠ P.gm := HD2.out.apart.g_m
      have hne1 : b1 ≠ P.gm := fun e => HD.out b1 hb1 (e ▸ P.own_m)
      have hne2 : b2 ≠ P.gm := fun e => HD.out b2 hb2 (e ▸ P.own_m)
      clear hc hb1 hb2 hl1 hl2 hx hy ha
      go_wp2_with fail
      go_region_held3 (fun w' => w'.cell? ⟨P.g, 8, none⟩ = some (.map (some P.gm)) ∧ w'.cell? ⟨b1, o1 + k, none⟩ = some (.slice A1 n1 c1) ∧ w'.cell? ⟨b2, o2 + k, none⟩ = some (.slice A3 n3 c3))
        (first | exact ⟨h8, hc1, hc2⟩ | exact held3_keep (by assumption) hb | exact held3_grown (by assumption) hgr hne0 hne1 hne2 | go_keep)
        (first
          | (go_at_call 71; refine (HADR.out _ HB.out).mono ?_; rintro e w2 ⟨rfl, hb⟩; replace HB := Lib.hid (below_then HB.out hb))
          | (go_at_call_of 59 A1; refine (HCL1.out _ HB.out).mono ?_; rintro e w2 ⟨v, rfl, ho, hb⟩; obtain ⟨E1, d1, rfl, l1, l2, hs1⟩ := ho.span; have HS1 := Lib.hid hs1; have HB1 := Lib.hid HB.out.size; replace HB := Lib.hid (below_then HB.out hb); clear ho hs1 l1 l2)
          | (go_at_call_of 59 A3; refine (HCL2.out _ HB.out).mono ?_; rintro e w2 ⟨v, rfl, ho, hb⟩; obtain ⟨E2, d2, rfl, l1, l2, hs2⟩ := ho.span; have HS2 := Lib.hid hs2; have HB2 := Lib.hid HB.out.size; have HB3 := Lib.hid hb; replace HB := Lib.hid (below_then HB.out hb); clear ho hs2 l1 l2;
              obtain ⟨m, hm, hs⟩ := (HD2.out.below HB.out).dict; obtain ⟨w3, hrun, hdi, hgr⟩ := hm.store Try.underlying40 hab2 hab0 hab1 (.agg #[.slice E1 xs.length d1, .slice E2 ys.length d2]); have HM := Lib.hid hs; have HDI := Lib.hid hdi; clear hs hdi hm))
      rename_i hHeld
      clear hHeld hrun
      go_wp2
      go_roundw
      case measure => simp [intOf]; omega
      case rel =>
        have e1 : lay G u b g dat oob st.rd (k + 1) = fun a' => if a' = a then some (xs, ys) else lay G u b g dat oob st.rd k a' := by
          rw [HA.out]
          simp only [lay, List.getD_eq_getElem?_getD, HX.out, HY.out, Option.getD_some]
        have h1 : Lie w2 (fun b => D' b ∨ wr.heap.size ≤ b ∧ b < w2.heap.size) E1 xs.length xs := (Lie.of_span HS1.out).keep (fun b hb => Or.inr ⟨Nat.le_trans HB1.out hb.1, Nat.lt_of_lt_of_le hb.2 HB3.out.size⟩) (fun b hb => HB3.out.block b hb.2)
        have h2 : Lie w2 (fun b => D' b ∨ wr.heap.size ≤ b ∧ b < w2.heap.size) E2 ys.length ys := (Lie.of_span HS2.out).keep (fun b hb => Or.inr ⟨Nat.le_trans HB2.out hb.1, hb.2⟩) (fun _ _ => rfl)
        have hdev := (HD2.out.below HB.out).set_dict hgr (D' := fun b => D' b ∨ wr.heap.size ≤ b ∧ b < w2.heap.size) (fun b hb => hb.imp id (fun h => ⟨fun ho => by have := HD2.out.lt b ho; omega, h.2⟩)) HDI.out ((HM.out.keep (fun b hb => Or.inl hb) (fun _ _ => rfl)).put a (by rw [HL1.out]; omega) (by rw [HL2.out]; omega) h1 h2)
        refine ⟨k + 1, by go_num, by omega, _, by rw [e1]; exact hdev, HT.out.trans (((Turn.of_below _ HB.out).trans (Turn.of_grown hgr (Pl.own_m { P with D := D' }))).widen fun b hb => ?_)⟩
        rcases hb with hb | hb | hb | hb | hb
        · exact Or.inl (Or.inl hb)
        · exact Or.inl (Or.inr (Or.inl hb))
        · exact Or.inl (Or.inr (Or.inr (Or.inl hb)))
        · exact Or.inl (Pl.own_p { P with D := D' } hb)
        · exact hb.imp (fun h => Pl.own_d { P with D := D' } h) (fun h => h.1)
    · obtain rfl : k = n := by omega
      go_wp2
      go_end0
      exact ⟨rfl, D', HD2.out, HT.out⟩

theorem forget_any (hG : G.Ok) (h : Dev G w P st) (u b : Int) (hh : has G u b) :
    Calls Try.prog 57 #[ptr P.g, .int .i64 u, .int .i64 b] w fun e w' => e = .returned (.tuple #[]) ∧ Dev G w' P { st with rd := wipe G u b st.rd } ∧ Turn P.own P.own w w' := by
  obtain ⟨_, h1, h2, h3, h4, h5, _, _, h8, _⟩ := h.cells
  have hp1 : G.p ≤ 32 := hG.may.2.2.2.2.2.2.2.1
  have hs1 : G.s ≤ 4 := hG.may.2.2.2.2.2.2.2.2.2
  have hp0 : 1 ≤ G.p := hG.may.2.2.2.2.2.2.1
  have hs0 : 1 ≤ G.s := hG.may.2.2.2.2.2.2.2.2.1
  have H := Lib.hid h
  have HG := Lib.hid hG
  have HH := Lib.hid hh
  clear h hG hh h1 h2 h3 h8
  go_enter Try.func57, Try.ntmps57
  go_wp2
  go_loopw [13] (fun i wr => ∃ g : Int, i = .int .i64 g ∧ 0 ≤ g ∧ g ≤ G.p ∧ Dev G wr P { st with rd := gone G u b g 0 st.rd } ∧ Turn P.own P.own w wr) (fun i _ => (G.p - intOf i).toNat)
  case atStart => exact ⟨0, rfl, by omega, by omega, by rw [gone_start]; exact H.out, Turn.refl _ _⟩
  case round =>
    obtain ⟨g, rfl, hg0, hg1, hd, ht⟩ := hrel
    have HD := Lib.hid hd
    have HT := Lib.hid ht
    clear hd ht
    by_cases hlt : g < G.p
    · have k5 : wr.cell? ⟨P.g, 5, none⟩ = some (.int .i64 G.s) := HD.out.cells.2.2.2.2.2.1
      go_wp2
      go_loopw [21] (fun i wr2 => ∃ t : Int, i = .int .i64 t ∧ 0 ≤ t ∧ t ≤ G.s ∧ Dev G wr2 P { st with rd := gone G u b g t st.rd } ∧ Turn P.own P.own w wr2) (fun i _ => (G.s - intOf i).toNat)
      case atStart => exact ⟨0, rfl, by omega, by omega, HD.out, HT.out⟩
      case round =>
        clear HD HT k5
        obtain ⟨t, rfl, ht0, ht1, hd, ht⟩ := hrel
        have HD := Lib.hid hd
        have HT := Lib.hid ht
        clear hd ht
        by_cases hlt2 : t < G.s
        · have h8 : wr.cell? ⟨P.g, 8, none⟩ = some (.map (some P.gm)) := HD.out.cells.2.2.2.2.2.2.2.2.1
          have hne0 : P.g ≠ P.gm := HD.out.apart.g_m
          have HB : Hid (Below wr.heap.size wr wr.drew) := Lib.hid (Below.refl _ _).drew
          have hth : Geom.there G.U G.k G.p G.s u b g t := ⟨HH.out.1, HH.out.2.1, HH.out.2.2.1, HH.out.2.2.2, hg0, hlt, ht0, hlt2⟩
          have HADR := Lib.hid (fun X (hb : Below wr.heap.size wr X) => address_ok HG.out (HD.out.below hb) u b g t hth)
          have HAB := Lib.hid (adr_bd HG.out hth)
          obtain ⟨a, ha⟩ : ∃ a, a = adr G u b g t := ⟨_, rfl⟩
          rw [← ha] at HADR HAB
          have HA := Lib.hid ha
          have hwf : (Lit.int .i64 a).wf = true := wf_of_bd (N := 1000000) (by omega) HAB.out.1 (by have := HAB.out.2; have := HG.out.n1; omega)
          have HWF := Lib.hid hwf
          clear hth ha hwf
          go_wp2_with fail
          go_region_held3 (fun w' => w'.cell? ⟨P.g, 8, none⟩ = some (.map (some P.gm)))
            (first | exact h8 | exact cell_stays hb (by assumption) | exact hgr.cell (by assumption) (fun e => hne0 (by injection e)) | go_keep)
            (first
              | (go_at_call 71; refine (HADR.out _ HB.out).mono ?_; rintro e w2 ⟨rfl, hb⟩; replace HB := Lib.hid (below_then HB.out hb);
                  obtain ⟨m, hm, hs⟩ := (HD.out.below HB.out).dict; obtain ⟨w3, hrun, hdi, hgr⟩ := hm.delete Try.underlying40 HWF.out 0; have HM := Lib.hid hs; have HDI := Lib.hid hdi; clear hs hdi hm))
          rename_i hHeld
          clear hHeld hrun
          go_wp2
          go_roundw
          case measure => simp [intOf]; omega
          case rel =>
            have e1 : gone G u b g (t + 1) st.rd = fun a' => if a' = a then none else gone G u b g t st.rd a' := by
              rw [HA.out]
              exact gone_step g t hg0 ht0 hlt2 st.rd
            refine ⟨t + 1, by go_num, by omega, by omega, ?_, HT.out.trans ((Turn.of_below _ HB.out).trans (Turn.of_grown hgr (Pl.own_m P)))⟩
            rw [e1]
            exact (HD.out.below HB.out).set_dict hgr (D' := P.D) (fun b hb => Or.inl hb) HDI.out (HM.out.drop a)
        · obtain rfl : t = G.s := by omega
          go_wp2
          go_roundw
          case measure => simp [intOf]; omega
          case rel => exact ⟨g + 1, by go_num, by omega, by omega, by rw [← gone_line]; exact HD.out, HT.out⟩
    · obtain rfl : g = G.p := by omega
      go_wp2
      go_end0
      exact ⟨rfl, HD.out, HT.out⟩
end

end Go.Proofs.Ytlmdlhfdacmcnaa.NandPkg
