/-
  The document's own answer for layer 15: filled.
-/
import Derived.Test.YteonjdigcecceaaPageRefMem
namespace Go.Proofs.Yteonjdigcecceaa.PageRef
open Go.RowKit Go.ChangeShapes Go.WideShapes Page PagePkg
set_option maxRecDepth 4000

def lenV : Value → Nat
  | .slice _ n _ => n
  | _ => 0

set_option maxHeartbeats 2000000 in
theorem rfilled_any (N : Nat) (ps : List Pc) {a b : Value} {rs : List Rz} {lo : Nat} {w : World} (h : Pz w lo a b rs) (hk : rs.map Rz.two = ps.map Pc.two) (h1 : ps.length ≤ N) (h4 : N ≤ 4) (hlo : lo ≤ w.heap.size) :
    Calls Try.prog 27 #[.int .i64 (N : Int), a, b] w fun e w' => ∃ a' b' rs', e = .returned (.tuple #[a', b']) ∧ Pz w' lo a' b' rs' ∧ rs'.map Rz.two = (fill N ps).map Pc.two ∧ Below lo w w' := by
  have H := Lib.hid h
  have HK := Lib.hid hk
  have HLO := Lib.hid hlo
  have hmk := fun w => made_zeros w
  have hz := own_zeros w
  have hb0 := (Below.refl w.heap.size w).alloc (Nat.le_refl _) (.cells (zeros.map cellOf).toArray 5)
  have hzr : Bytes (w.alloc (.cells (zeros.map cellOf).toArray 5)) (w.alloc (.cells (zeros.map cellOf).toArray 5)).heap.size (some ⟨w.heap.size, 0, none⟩) 16 zeros := by
    obtain ⟨A, c, e, h2⟩ := hz.reads
    injection e with e _ _
    subst e
    exact h2
  have HP := Lib.hid (OobPkg.rPack_ok 3 0 0 (some ⟨w.heap.size, 0, none⟩) 16 zeros (w.alloc (.cells (zeros.map cellOf).toArray 5)) pad_ok.1 hzr)
  have HB0 := Lib.hid hb0
  obtain ⟨A0, c0, A0', c0', e1, e2, _⟩ := h.reads
  subst e1 e2
  clear h hk hlo hz hb0 hzr
  go_enter Try.func27, Try.ntmps27
  go_wp2_with fail
  refine HP.out.mono ?_
  rintro e w2 ⟨vp, rfl, hop, hb⟩
  obtain ⟨Ap, cp, hvp, hrp⟩ := hop.reads
  have hl17 : (Oob.full 3 0 0 zeros).length = 17 := rfl
  rw [hl17] at hvp hrp
  subst hvp
  have hlp : Lie w2 (fun k => w.heap.size ≤ k ∧ k < w2.heap.size) Ap 17 pad.code := by
    obtain ⟨A, c, e, _, _, h⟩ := Lie.of_own hop
    injection e with e _ _
    subst e
    exact h.keep (fun k hk => ⟨by have := hk.1; rw [World.size_alloc] at this; omega, hk.2⟩) (fun _ _ => rfl)
  have HB2 := Lib.hid (below_on HB0.out hb HB0.out.size)
  have HLP := Lib.hid hlp
  have H2 := Lib.hid (H.out.below HB2.out)
  have HA1 := Lib.hid (fun k hk => H.out.own1.lt k hk)
  have HA2 := Lib.hid (fun k hk => H.out.own2.lt k hk)
  have HLO2 := Lib.hid (Nat.le_trans HLO.out HB2.out.size)
  clear hop hb hrp HP H hl17 hlp
  go_wp2
  go_loopw [1, 2] (fun v1 v2 wr => ∃ (rs' : List Rz) (ps' : List Pc), Pz wr lo v1 v2 rs' ∧ rs'.map Rz.two = ps'.map Pc.two ∧ ps'.length ≤ N ∧ fill N ps' = fill N ps ∧ Lie wr (fun k => w.heap.size ≤ k ∧ k < w2.heap.size) Ap 17 pad.code ∧ Below lo w wr ∧ w2.heap.size ≤ wr.heap.size ∧ (∀ k, v1.ownBlock = some k → k < w.heap.size ∨ w2.heap.size ≤ k) ∧ (∀ k, v2.ownBlock = some k → k < w.heap.size ∨ w2.heap.size ≤ k)) (fun v1 _ _ => N - lenV v1)
  case atStart => exact ⟨rs, ps, H2.out, HK.out, h1, rfl, HLP.out, HB2.out.mono HLO.out, Nat.le_refl _, fun k hk => .inl (HA1.out k hk), fun k hk => .inl (HA2.out k hk)⟩
  case round =>
    obtain ⟨W, rfl⟩ : ∃ W, W = wr := ⟨_, rfl⟩
    obtain ⟨rs', ps', hh, hkey, hle, hfill, hlp, hbel, hbs, ho1, ho2⟩ := hrel
    obtain ⟨m, hm1⟩ : ∃ m, rs'.length = m := ⟨_, rfl⟩
    have hm2 : ps'.length = m := by have := congrArg List.length hkey; simp at this; omega
    obtain ⟨A1, c1, A2, c2, e1, e2, _⟩ := hh.reads
    rw [hm1] at e1 e2
    subst e1 e2
    rw [hm2] at hle
    have HH := Lib.hid hh
    have HKEY := Lib.hid hkey
    have HFILL := Lib.hid hfill
    have HLPW := Lib.hid hlp
    have HBEL := Lib.hid hbel
    have HM1 := Lib.hid hm1
    have HM2 := Lib.hid hm2
    have HO1 := Lib.hid ho1
    have HO2 := Lib.hid ho2
    clear hh hkey hfill hlp hbel hm1 hm2 ho1 ho2
    by_cases hlt : m < N
    · have hlt2 : (m : Int) < (N : Int) := by omega
      have hloW : lo ≤ W.heap.size := Nat.le_trans HLO2.out hbs
      have hbz := (Below.refl W.heap.size W).alloc (Nat.le_refl _) (.cells (zeros.map cellOf).toArray 5)
      have hHz := HH.out.below hbz
      obtain ⟨Az, cz, ez, hcz, hlz⟩ := good_own (own_zeros W) (a := .slice A1 m c1) (b := .slice A2 m c2) (fun k hk => HH.out.own1.lt k hk) (fun k hk => HH.out.own2.lt k hk)
      injection ez with ez e0 ez2
      subst ez ez2
      clear e0
      have HHZ := Lib.hid hHz
      have HLZ := Lib.hid hlz
      have HBZ := Lib.hid hbz
      have HHO1 := Lib.hid hHz.own1
      have hbase1 : lo ≤ (W.alloc (.cells (zeros.map cellOf).toArray 5)).heap.size := Nat.le_trans hloW hbz.size
      clear hHz hlz hbz
      have HZS := Lib.hid (show (W.alloc (.cells (zeros.map cellOf).toArray 5)).heap.size = W.heap.size + 1 by simp)
      go_wp2_with (at_builtin; refine wpList_append_slice _ rfl _ _ _ rfl lo 40 Try.underlying25 infoS (.slice A1 m c1) (rs'.map Rz.x) rfl HHO1.out (some ⟨W.heap.size, 0, none⟩) 16 16 (by rw [HZS.out]; rfl) (by rw [List.length_map, HM1.out]; omega) hbase1 ?_)
      intro v1' w4 hv1 hg1 hl1
      have hg1' := (World.grownBy_alloc (W.alloc (.cells (zeros.map cellOf).toArray 5)) (.cells #[.slice (some ⟨W.heap.size, 0, none⟩) 16 16] 40) _).trans hg1
      obtain ⟨A1', c1', ev1, _⟩ := hv1.reads
      rw [List.length_append, List.length_map, HM1.out, List.length_singleton] at ev1
      subst ev1
      have hs4 : w2.heap.size ≤ w4.heap.size := Nat.le_trans hbs (Nat.le_trans HBZ.out.size hg1'.size)
      have hW4 : W.heap.size + 1 ≤ w4.heap.size := by rw [← HZS.out]; exact hg1'.size
      have hlp4 : Lie w4 (fun k => w.heap.size ≤ k ∧ k < w2.heap.size) Ap 17 pad.code := HLPW.out.keep (fun _ h => h) (fun k hk => (hg1'.block k (by have := hk.2; rw [HZS.out]; omega) (fun e => by have := hk.1; have := hk.2; rcases HO1.out k e.symm with h | h <;> omega)).trans (HBZ.out.block k (by have := hk.2; omega)))
      have hbe := (Below.refl w4.heap.size w4).alloc (Nat.le_refl _) (.cells #[] 5)
      have HLE : Hid (([] : List UInt8).length + 17 ≤ 140737488355328) := Lib.hid (by decide)
      have HRP := Lib.hid (show Bytes (w4.alloc (.cells #[] 5)) w4.heap.size Ap 17 pad.code from bytes_keep (hlp4.bytes (fun k hk => by have := hk.2; omega)) hbe)
      have HV1 := Lib.hid hv1
      have HG1 := Lib.hid hg1'
      have HL1 := Lib.hid hl1
      have HBE := Lib.hid hbe
      have HLP4 := Lib.hid hlp4
      clear hv1 hg1 hg1' hl1 hbe hlp4 HHO1
      go_wp2_with (at_builtin; refine wpList_append_bytes _ rfl _ _ _ rfl w4.heap.size 5 Try.underlying40 info8 _ [] rfl (own_new w4 5 [] _ rfl (Nat.zero_le _)) w4.heap.size Ap 17 cp pad.code rfl HRP.out HLE.out (by simp) ?_)
      intro v5 w5 ho5 hg5 _
      have hb5 := HBE.out.grown hg5 (by simp) (fun k hk => by simp [Value.ownBlock] at hk; omega)
      obtain ⟨A5, c5, ev5, hc5, hl5⟩ := good_own ho5 (a := .slice A1' (m + 1) c1') (b := .slice A2 m c2) (fun k hk => HV1.out.lt k hk) (fun k hk => Nat.lt_of_lt_of_le (HH.out.own2.lt k hk) (by omega))
      rw [Pc.code_len] at ev5
      subst ev5
      have hk2 : OwnV w5 lo 40 (.slice A2 m c2) (rs'.map Rz.y) := (HHZ.out.own2.keep fun k hk => HG1.out.block k (HHZ.out.own2.lt k hk) (fun e => HHZ.out.apart k e.symm hk)).below hb5
      have HK2 := Lib.hid hk2
      have HB5 := Lib.hid hb5
      have HL5 := Lib.hid hl5
      have hbase5 : lo ≤ w5.heap.size := Nat.le_trans hloW (Nat.le_trans (by omega) hb5.size)
      have hs5 : w2.heap.size ≤ w5.heap.size := Nat.le_trans hs4 hb5.size
      clear ho5 hg5 hb5 hk2 hl5 HRP HBE
      go_wp2_with (at_builtin; refine wpList_append_slice _ rfl _ _ _ rfl lo 40 Try.underlying25 infoS (.slice A2 m c2) (rs'.map Rz.y) rfl HK2.out A5 17 c5 rfl (by rw [List.length_map, HM1.out]; omega) hbase5 ?_)
      intro v2' w6 hv2 hg2 hl2
      have hg2' := (World.grownBy_alloc w5 (.cells #[.slice A5 17 c5] 40) _).trans hg2
      obtain ⟨A2', c2', ev2, _⟩ := hv2.reads
      rw [List.length_append, List.length_map, HM1.out, List.length_singleton] at ev2
      subst ev2
      have HEND := Lib.hid (show Pz w6 lo (.slice A1' (m + 1) c1') (.slice A2' (m + 1) c2') (rs' ++ [⟨some ⟨W.heap.size, 0, none⟩, 16, zeros, A5, c5, pad.code⟩]) ∧ (rs' ++ [Rz.mk (some ⟨W.heap.size, 0, none⟩) 16 zeros A5 c5 pad.code]).map Rz.two = (ps' ++ [pad]).map Pc.two ∧ (ps' ++ [pad]).length ≤ N ∧ fill N (ps' ++ [pad]) = fill N ps ∧ Lie w6 (fun k => w.heap.size ≤ k ∧ k < w2.heap.size) Ap 17 pad.code ∧ Below lo w w6 ∧ w2.heap.size ≤ w6.heap.size ∧ (∀ k, (Value.slice A1' (m + 1) c1').ownBlock = some k → k < w.heap.size ∨ w2.heap.size ≤ k) ∧ (∀ k, (Value.slice A2' (m + 1) c2').ownBlock = some k → k < w.heap.size ∨ w2.heap.size ≤ k) by
        refine ⟨?_, ?_, by rw [List.length_append, List.length_singleton, HM2.out]; omega, ?_, ?_, ?_, Nat.le_trans hs5 hg2'.size, ?_, ?_⟩
        · exact HHZ.out.snoc ⟨some ⟨W.heap.size, 0, none⟩, 16, zeros, A5, c5, pad.code⟩ ⟨Nat.le_refl _, hcz.2, hc5⟩ HLZ.out HG1.out HV1.out (fun k hk => by rw [HZS.out]; exact HL1.out k hk) HB5.out HL5.out hg2' hv2 hl2
        · rw [List.map_append, List.map_append, HKEY.out]
          rfl
        · rw [fill_more (by rw [HM2.out]; exact hlt)]
          exact HFILL.out
        · exact HLP4.out.keep (fun _ h => h) (fun k hk => (hg2'.block k (by have := hk.2; omega) (fun e => by have := hk.1; have := hk.2; rcases HO2.out k e.symm with h | h <;> omega)).trans (HB5.out.block k (by have := hk.2; omega)))
        · exact ((((HBEL.out.trans (HBZ.out.mono hloW)).grown HG1.out hbase1 (fun k hk => HHZ.out.own1.block k hk)).trans (HB5.out.mono (Nat.le_trans hloW (by omega)))).grown hg2' hbase5 (fun k hk => HK2.out.block k hk))
        · intro k hk
          rcases HL1.out k hk with h | h
          · exact HO1.out k h
          · exact .inr (by omega)
        · intro k hk
          rcases hl2 k hk with h | h
          · exact HO2.out k h
          · exact .inr (by omega))
      clear hv2 hg2 hg2' hl2
      go_wp2
      go_roundw
      case measure => simp [lenV]; omega
      case rel => exact ⟨_, _, HEND.out⟩
    · obtain rfl : m = N := by omega
      have HEND := Lib.hid (show ∃ a' b' rs', Ending.returned (.tuple #[.slice A1 m c1, .slice A2 m c2]) = .returned (.tuple #[a', b']) ∧ Pz W lo a' b' rs' ∧ rs'.map Rz.two = (fill m ps).map Pc.two ∧ Below lo w W from
        ⟨_, _, rs', rfl, HH.out, by rw [HKEY.out, ← HFILL.out, fill_self (by rw [HM2.out]; exact Nat.le_refl _)], HBEL.out⟩)
      go_wp2
      go_ret2
      exact HEND.out

end Go.Proofs.Yteonjdigcecceaa.PageRef
