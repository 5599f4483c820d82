/-
  The document's own answer for layer 15: Build.
-/
import Derived.Test.YteonjdigcecceaaPageRefFill
import Derived.Deep.RegionHeld3
import Derived.Deep.DeepCutAuto
namespace Go.Proofs.Yteonjdigcecceaa.PageRef
open Go.RowKit Go.ChangeShapes Go.WideShapes Page PagePkg
set_option maxRecDepth 4000

theorem good_on {w w1 : World} {a a' b : Value} {A : Option Addr} {n : Nat} {xs : List UInt8} (h : Lie w (Good w a b) A n xs) (G1 : w.grownBy w1 a.ownBlock) (P1 : ∀ k, a'.ownBlock = some k → a.ownBlock = some k ∨ w.heap.size ≤ k) : Lie w1 (Good w1 a' b) A n xs := by
  have hs := G1.size
  exact h.keep (fun k hk => ⟨by have := hk.1; omega, fun e => (P1 k e).elim hk.2.1 (fun h3 => by have := hk.1; omega), hk.2.2⟩) (fun k hk => G1.block k hk.1 (fun e => hk.2.1 e.symm))

/-- What its Build hands back. -/
def RBuilt (n : Int) (ps : List Pc) (w w' : World) (e : Ending) : Prop :=
  ((fits n ps.length ∧ ∀ p ∈ ps, p.Ok) ∧ ∃ a b rs, e = .returned (.tuple #[a, b, .int .i64 0]) ∧ Pz w' w.heap.size a b rs ∧ rs.map Rz.two = (fill n.toNat ps).map Pc.two ∧ Below w.heap.size w w') ∨
  (¬ (fits n ps.length ∧ ∀ p ∈ ps, p.Ok) ∧ e = .returned (.tuple #[.slice none 0 0, .slice none 0 0, .int .i64 1]) ∧ Below w.heap.size w w')

def slBox (w : World) (b : Nat) (k l s f : Int) (Ap : Option Addr) (n cp : Nat) : Prop := w.heap[b]? = some (.cells #[.int .i64 k, .int .i64 l, .int .i64 s, .slice Ap n cp, .int .i64 f] 42 (0, 0))

theorem slBox.cells {w : World} {b : Nat} {k l s f : Int} {Ap : Option Addr} {n cp : Nat} (h : slBox w b k l s f Ap n cp) : w.cell? ⟨b, 0, none⟩ = some (.int .i64 k) ∧ w.cell? ⟨b, 1, none⟩ = some (.int .i64 l) ∧ w.cell? ⟨b, 2, none⟩ = some (.int .i64 s) ∧ w.cell? ⟨b, 3, none⟩ = some (.slice Ap n cp) ∧ w.cell? ⟨b, 4, none⟩ = some (.int .i64 f) := by
  unfold slBox at h
  simp [World.cell?, h]
theorem slBox.below {w w' : World} {b : Nat} {k l s f : Int} {Ap : Option Addr} {n cp : Nat} (h : slBox w b k l s f Ap n cp) (hb : Below w.heap.size w w') : slBox w' b k l s f Ap n cp := (hb.block b (Array.getElem?_eq_some_iff.1 h).1).trans h

theorem rBuild_no (n : Int) (A : Option Addr) (m c : Nat) (ss : List Sl) (w : World) (hm : ss.length = m) (hf : ¬ fits n m) :
    Calls Try.prog 12 #[.int .i64 n, .slice A m c] w fun e w' => RBuilt n (ss.map Sl.pc) w w' e := by
  have HNO := Lib.hid (show RBuilt n (ss.map Sl.pc) w w (.returned (.tuple #[.slice none 0 0, .slice none 0 0, .int .i64 1])) from .inr ⟨by rw [List.length_map, hm]; exact fun h => hf h.1, rfl, Below.refl _ _⟩)
  by_cases h1 : n < 1
  · clear hf
    go_enter Try.func12, Try.ntmps12
    go_wp2
    go_ret3
    exact HNO.out
  by_cases h2 : 4 < n
  · clear hf
    go_enter Try.func12, Try.ntmps12
    go_wp2
    go_ret3
    exact HNO.out
  by_cases h3 : m = 0
  · have h3' : ((m : Int) == 0) = true := by simp [h3]
    clear hf h3
    go_enter Try.func12, Try.ntmps12
    go_wp2
    go_ret3
    exact HNO.out
  · have h3' : ((m : Int) == 0) = false := by simp [h3]
    have h4 : n < (m : Int) := by unfold fits at hf; omega
    clear hf h3
    go_enter Try.func12, Try.ntmps12
    go_wp2
    go_ret3
    exact HNO.out

set_option maxHeartbeats 4000000 in
theorem rBuild_fits (N : Nat) (A : Option Addr) (m c : Nat) (ss : List Sl) (w : World) (h : Slots w w.heap.size A m ss) (hl : ∀ x ∈ ss, x.d.length ≤ 100000000000000) (hf : fits (N : Int) m) :
    Calls Try.prog 12 #[.int .i64 (N : Int), .slice A m c] w fun e w' => RBuilt (N : Int) (ss.map Sl.pc) w w' e := by
  have HS := Lib.hid h
  have HM := Lib.hid h.len
  have HDL := Lib.hid hl
  have HF := Lib.hid (show fits (N : Int) (ss.map Sl.pc).length by rw [List.length_map, h.len]; exact hf)
  have hm1 : 1 ≤ m := hf.1
  have hmN : m ≤ N := by have := hf.2.1; omega
  have hN4 : N ≤ 4 := by have := hf.2.2; omega
  have h3' : ((m : Int) == 0) = false := by simp; omega
  have g1 : ¬ (N : Int) < 1 := by omega
  have g2 : ¬ (4 : Int) < (N : Int) := by omega
  have g3 : ¬ (N : Int) < (m : Int) := by omega
  have HP0 := Lib.hid (pz_nil w w.heap.size)
  clear h hl hf
  go_enter Try.func12, Try.ntmps12
  go_wp2
  go_loopw [7, 8, 9] (fun v1 v2 i wr => ∃ (j : Nat) (rs : List Rz), i = .int .i64 (j : Int) ∧ j ≤ m ∧ Pz wr w.heap.size v1 v2 rs ∧ rs.map Rz.two = ((ss.take j).map Sl.pc).map Pc.two ∧ (∀ p ∈ (ss.take j).map Sl.pc, p.Ok) ∧ Below w.heap.size w wr) (fun _ _ i _ => m - (intOf i).toNat)
  case atStart => exact ⟨0, [], rfl, by omega, HP0.out, rfl, by simp, Below.refl _ _⟩
  case round =>
    obtain ⟨j, rs, rfl, hj, hh, htwo, hok, hbw⟩ := hrel
    have hl : rs.length = j := by have := congrArg List.length htwo; simp at this; have h2 := HM.out; omega
    obtain ⟨A1, c1, A2, c2, e1, e2, _⟩ := hh.reads
    rw [hl] at e1 e2
    subst e1 e2
    have HH := Lib.hid hh
    have HTWO := Lib.hid htwo
    have HOK := Lib.hid hok
    have HBW := Lib.hid hbw
    have HL := Lib.hid hl
    clear hh htwo hok hbw hl
    by_cases hjm : j < m
    · have hjm2 : (j : Int) < (m : Int) := by omega
      have hj0 : (0 : Int) ≤ (j : Int) := by omega
      obtain ⟨x, hx⟩ : ∃ x, ss[j]? = some x := ⟨_, List.getElem?_eq_getElem (by rw [HM.out]; exact hjm)⟩
      obtain ⟨g, off, Ap, cp, hA, hat⟩ := (HS.out.keep HBW.out).at_ j x hx
      subst hA
      have hxl := HDL.out x (List.mem_of_getElem? hx)
      have hSec := fun X hX hr => rSector_any x Ap cp w.heap.size X hX hxl hr
      have hdat := hat.data
      have k0 := hat.c0
      have k1 := hat.c1
      have k2 := hat.c2
      have k3 := hat.c3
      have k4 := hat.c4
      have htk : ss.take (j + 1) = ss.take j ++ [x] := by rw [List.take_add_one, hx]; rfl
      have hiff := rsect_all (x := x)
      have hso : x.pc.Ok → x.pc.two = (rsect x, Oob.full x.k x.l x.s (rsect x)) := fun h => by
        rw [rsect_ok h]
        rfl
      have hno : ¬ x.pc.Ok → ∀ w', Below w.heap.size w w' → RBuilt (N : Int) (ss.map Sl.pc) w w' (.returned (.tuple #[.slice none 0 0, .slice none 0 0, .int .i64 1])) := fun hp w' hb =>
        .inr ⟨fun h => hp (h.2 _ (List.mem_map.2 ⟨x, List.mem_of_getElem? hx, rfl⟩)), rfl, hb⟩
      obtain ⟨sx, hsx⟩ : ∃ sx, sx = rsect x := ⟨_, rfl⟩
      rw [← hsx] at hiff hso
      simp only [← hsx] at hSec
      have HTK := Lib.hid htk
      have HIFF := Lib.hid hiff
      have HSO := Lib.hid hso
      have HNO := Lib.hid hno
      clear htk hiff hso hno hsx hx hat
      obtain ⟨k, l, s, d, f⟩ := x
      dsimp only at k0 k1 k2 k3 k4 hSec hdat hxl HIFF HSO HTK
      have HSEC := Lib.hid hSec
      have HDAT := Lib.hid hdat
      clear hSec hdat hxl
      go_upto_region 8 with fail
      refine at_wld ?_
      intro Y hY
      have hT : slBox Y wr.heap.size k l s f Ap d.length cp := by rw [hY]; exact heap_alloc_new wr _
      have hbY : Below wr.heap.size wr Y := by rw [hY]; exact (Below.refl _ _).alloc (Nat.le_refl _) _
      clear hY k0 k1 k2 k3 k4
      have HT := Lib.hid hT
      have HBY := Lib.hid (below_on HBW.out hbY HBW.out.size)
      have HHY := Lib.hid (HH.out.below hbY)
      have hwY : w.heap.size ≤ Y.heap.size := HBY.out.size
      have HDY := Lib.hid (bytes_keep HDAT.out (hbY.mono HBW.out.size))
      have HC1 := Lib.hid (HSEC.out Y.drew hwY HDY.out)
      have S0 := hT.cells
      clear hT hbY
      by_cases hpk : Oob.Ok k l s ∧ sx.length = 16
      · have HPK := Lib.hid (fun X A c hr => OobPkg.rPack_ok k l s A c sx X hpk.1 hr)
        have h16 : sx.length = 16 := hpk.2
        have HPO := Lib.hid hpk
        clear hpk
        go_region_held3 (fun w' => w'.cell? ⟨wr.heap.size, 0, none⟩ = some (.int .i64 k) ∧ w'.cell? ⟨wr.heap.size, 1, none⟩ = some (.int .i64 l) ∧ w'.cell? ⟨wr.heap.size, 2, none⟩ = some (.int .i64 s) ∧ w'.cell? ⟨wr.heap.size, 3, none⟩ = some (.slice Ap d.length cp) ∧ w'.cell? ⟨wr.heap.size, 4, none⟩ = some (.int .i64 f))
          (first | exact S0 | exact S5 | exact S4)
          (first
            | (go_at_call 26; refine HC1.out.mono ?_; rintro e w4 ⟨v4, rfl, ho4, hb4⟩
               obtain ⟨A4, c4, e4, hr4⟩ := ho4.reads
               rw [h16] at e4 hr4
               subst e4
               have HB4 : Hid (Below Y.heap.size Y w4) := Lib.hid ⟨hb4.os, hb4.tape, hb4.output, hb4.size, hb4.block⟩
               have S4 := (HT.out.below HB4.out).cells
               clear ho4 hb4)
            | (go_at_call 25; refine (HPK.out _ _ _ hr4).mono ?_; rintro e w5 ⟨v5, rfl, ho5, hb5⟩
               obtain ⟨A5, c5, e5, _, _, _⟩ := Lie.of_own ho5
               rw [Oob.full_len] at e5
               subst e5
               have HB5 : Hid (Below Y.heap.size Y w5) := Lib.hid (below_on HB4.out hb5 HB4.out.size)
               have S5 := (HT.out.below HB5.out).cells))
        have HO5 := Lib.hid ho5
        have HB5' := Lib.hid (HBY.out.trans (HB5.out.mono hwY))
        obtain ⟨t0, t1, t2, t3, t4⟩ := S5
        clear ho5 hb5 hr4 S0 S4 HC1 HPK
        by_cases hk2 : k ≤ 2
        · have hk2' : ¬ (2 : Int) < k := by omega
          have hpok := HIFF.out.2 ⟨HPO.out, hk2⟩
          have HPOK := Lib.hid hpok
          have hsb : w.heap.size ≤ w5.heap.size := HB5'.out.size
          have HC2 := Lib.hid (HSEC.out w5 hsb (bytes_keep HDY.out (HB5.out.mono hwY)))
          have hY5 : Y.heap.size ≤ w5.heap.size := HB5.out.size
          clear hpok hk2
          go_wp2_with fail
          refine HC2.out.mono ?_
          rintro e w6 ⟨v6, rfl, ho6, hb6⟩
          have hs56 := hb6.size
          have hwr5 : wr.heap.size ≤ w5.heap.size := by have := (Array.getElem?_eq_some_iff.1 HT.out).1; omega
          have hh6 := (HHY.out.below HB5.out).below hb6
          obtain ⟨A6, c6, e6, hc6, hl6⟩ := good_own ho6 (a := .slice A1 j c1) (b := .slice A2 j c2) (fun k hk => Nat.lt_of_lt_of_le (HH.out.own1.lt k hk) hwr5) (fun k hk => Nat.lt_of_lt_of_le (HH.out.own2.lt k hk) hwr5)
          rw [h16] at e6
          subst e6
          obtain ⟨A5', c5', e5', hc5, hl5⟩ := good_own HO5.out (a := .slice A1 j c1) (b := .slice A2 j c2) (fun k hk => Nat.lt_of_lt_of_le (HHY.out.own1.lt k hk) HB4.out.size) (fun k hk => Nat.lt_of_lt_of_le (HHY.out.own2.lt k hk) HB4.out.size)
          rw [Oob.full_len] at e5'
          injection e5' with e5a _ e5b
          subst e5a e5b
          have hl5' : Lie w6 (Good w6 (.slice A1 j c1) (.slice A2 j c2)) A5 (Oob.full k l s sx).length (Oob.full k l s sx) := hl5.keep (fun k hk => ⟨Nat.lt_of_lt_of_le hk.1 hs56, hk.2⟩) (fun k hk => hb6.block k hk.1)
          have HB6 := Lib.hid (below_on HB5'.out hb6 hsb)
          have HH6 := Lib.hid hh6
          have HL6 := Lib.hid hl6
          have HL5 := Lib.hid hl5'
          have HO1 := Lib.hid hh6.own1
          have hbase6 : w.heap.size ≤ w6.heap.size := HB6.out.size
          clear ho6 hb6 hh6 hl6 hl5 hl5' HC2 HSEC HDY t0 t1 t2 t3 t4
          go_wp2_with (at_builtin; refine wpList_append_slice _ rfl _ _ _ rfl w.heap.size 40 Try.underlying25 infoS (.slice A1 j c1) (rs.map Rz.x) rfl HO1.out A6 16 c6 rfl (by rw [List.length_map, HL.out]; omega) hbase6 ?_)
          intro v1' w7 hv1 hg1 hl1
          have hg1' := (World.grownBy_alloc w6 (.cells #[.slice A6 16 c6] 40) _).trans hg1
          obtain ⟨A1', c1', ev1, _⟩ := hv1.reads
          rw [List.length_append, List.length_map, HL.out, List.length_singleton] at ev1
          subst ev1
          have hk2 : OwnV w7 w.heap.size 40 (.slice A2 j c2) (rs.map Rz.y) := HH6.out.own2.keep fun b hb => hg1'.block b (HH6.out.own2.lt b hb) (fun e => HH6.out.apart b e.symm hb)
          have HV1 := Lib.hid hv1
          have HG1 := Lib.hid hg1'
          have HL1 := Lib.hid hl1
          have HK2 := Lib.hid hk2
          have hbase7 : w.heap.size ≤ w7.heap.size := Nat.le_trans hbase6 hg1'.size
          clear hv1 hg1 hg1' hl1 hk2 HO1
          go_wp2_with (at_builtin; refine wpList_append_slice _ rfl _ _ _ rfl w.heap.size 40 Try.underlying25 infoS (.slice A2 j c2) (rs.map Rz.y) rfl HK2.out A5 17 c5 rfl (by rw [List.length_map, HL.out]; omega) hbase7 ?_)
          intro v2' w8 hv2 hg2 hl2
          have hg2' := (World.grownBy_alloc w7 (.cells #[.slice A5 17 c5] 40) _).trans hg2
          obtain ⟨A2', c2', ev2, _⟩ := hv2.reads
          rw [List.length_append, List.length_map, HL.out, List.length_singleton] at ev2
          subst ev2
          have HEND := Lib.hid (show Pz w8 w.heap.size (.slice A1' (j + 1) c1') (.slice A2' (j + 1) c2') (rs ++ [⟨A6, c6, sx, A5, c5, Oob.full k l s sx⟩]) ∧ (rs ++ [Rz.mk A6 c6 sx A5 c5 (Oob.full k l s sx)]).map Rz.two = ((ss.take (j + 1)).map Sl.pc).map Pc.two ∧ (∀ p ∈ (ss.take (j + 1)).map Sl.pc, p.Ok) ∧ Below w.heap.size w w8 by
            refine ⟨?_, ?_, ?_, ?_⟩
            · refine HH6.out.snoc ⟨A6, c6, sx, A5, c5, Oob.full k l s sx⟩ ⟨hc6.1, hc6.2, hc5⟩ HL6.out HG1.out ?_ HL1.out (Below.refl _ _) (good_on HL5.out HG1.out HL1.out) hg2' ?_ hl2
              · show OwnV _ _ _ _ (_ ++ [.slice A6 sx.length c6])
                rw [h16]
                exact HV1.out
              · exact hv2
            · rw [HTK.out, List.map_append, List.map_append, List.map_append, HTWO.out]
              have h := HSO.out HPOK.out
              simp only [List.map_cons, List.map_nil, h]
              rfl
            · rw [HTK.out, List.map_append]
              intro p hp
              rcases List.mem_append.1 hp with hp | hp
              · exact HOK.out p hp
              · simp only [List.map_cons, List.map_nil, List.mem_singleton] at hp
                rw [hp]
                exact HPOK.out
            · exact (HB6.out.grown HG1.out hbase6 (fun b hb => HH6.out.own1.block b hb)).grown hg2' hbase7 (fun b hb => HK2.out.block b hb))
          clear hv2 hg2 hg2' hl2
          go_wp2
          go_roundw
          case measure => simp [intOf]; omega
          case rel => exact ⟨j + 1, _, by go_num, by omega, HEND.out⟩
        · have hk2' : (2 : Int) < k := by omega
          have HEND := Lib.hid (HNO.out (fun h => hk2 (HIFF.out.1 h).2) w5 HB5'.out)
          clear hk2
          go_wp2
          go_ret3
          exact HEND.out
      · have HPK := Lib.hid (fun X A c => OobPkg.rPack_bad k l s A sx.length c X hpk)
        have HPO := Lib.hid hpk
        clear hpk
        go_region_held3 (fun w' => w'.cell? ⟨wr.heap.size, 0, none⟩ = some (.int .i64 k) ∧ w'.cell? ⟨wr.heap.size, 1, none⟩ = some (.int .i64 l) ∧ w'.cell? ⟨wr.heap.size, 2, none⟩ = some (.int .i64 s) ∧ w'.cell? ⟨wr.heap.size, 3, none⟩ = some (.slice Ap d.length cp) ∧ w'.cell? ⟨wr.heap.size, 4, none⟩ = some (.int .i64 f))
          (first | exact S0 | exact S5 | exact S4)
          (first
            | (go_at_call 26; refine HC1.out.mono ?_; rintro e w4 ⟨v4, rfl, ho4, hb4⟩
               obtain ⟨A4, c4, e4, hr4⟩ := ho4.reads
               subst e4
               have HB4 : Hid (Below Y.heap.size Y w4) := Lib.hid ⟨hb4.os, hb4.tape, hb4.output, hb4.size, hb4.block⟩
               have S4 := (HT.out.below HB4.out).cells
               clear ho4 hb4)
            | (go_at_call 25; refine (HPK.out _ _ _).mono ?_; rintro e w5 ⟨rfl, hb5⟩
               have HB5 : Hid (Below Y.heap.size Y w5) := Lib.hid (below_on HB4.out hb5 HB4.out.size)
               have S5 := (HT.out.below HB5.out).cells))
        have HEND := Lib.hid (HNO.out (fun h => HPO.out (HIFF.out.1 h).1) w5 (HBY.out.trans (HB5.out.mono hwY)))
        clear S0 S4 S5 hb5 hr4 HC1 HPK
        go_wp2
        go_ret3
        exact HEND.out
    · obtain rfl : j = m := by omega
      have ht : ss.take j = ss := List.take_of_length_le (by rw [HM.out]; exact Nat.le_refl _)
      have htwo := HTWO.out
      have hok := HOK.out
      rw [ht] at htwo hok
      have HFL := Lib.hid (rfilled_any N (ss.map Sl.pc) HH.out htwo (by rw [List.length_map, HM.out]; exact hmN) hN4 HBW.out.size)
      have HOK2 := Lib.hid hok
      clear ht htwo hok
      go_wp2_with fail
      refine HFL.out.mono ?_
      rintro e w5 ⟨a, b, rs', rfl, h1, h2, h3⟩
      have HEND := Lib.hid (show RBuilt (N : Int) (ss.map Sl.pc) w w5 (.returned (.tuple #[a, b, .int .i64 0])) from .inl ⟨⟨HF.out, HOK2.out⟩, a, b, rs', rfl, h1, by rw [Int.toNat_natCast]; exact h2, HBW.out.trans h3⟩)
      clear h1 h2 h3
      go_wp2
      go_ret3
      exact HEND.out

theorem rBuild_any (n : Int) (A : Option Addr) (m c : Nat) (ss : List Sl) (w : World) (h : Slots w w.heap.size A m ss) (hl : ∀ x ∈ ss, x.d.length ≤ 100000000000000) :
    Calls Try.prog 12 #[.int .i64 n, .slice A m c] w fun e w' => RBuilt n (ss.map Sl.pc) w w' e := by
  by_cases hf : fits n m
  · obtain ⟨N, rfl⟩ : ∃ N : Nat, n = (N : Int) := ⟨n.toNat, by unfold fits at hf; omega⟩
    exact rBuild_fits N A m c ss w h hl hf
  · exact rBuild_no n A m c ss w h.len hf

end Go.Proofs.Yteonjdigcecceaa.PageRef
