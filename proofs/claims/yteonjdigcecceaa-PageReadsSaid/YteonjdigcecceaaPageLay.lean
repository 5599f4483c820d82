/-
  What package page's lay does: pads behind, then each piece packed, its bytes copied.
-/
import Derived.Test.YteonjdigcecceaaPageWalks
namespace Go.Proofs.Yteonjdigcecceaa.PagePkg
open Go.RowKit Go.ChangeShapes Go.WideShapes Page
set_option maxRecDepth 4000

def _root_.Go.Proofs.Yteonjdigcecceaa.Page.Pc.key (p : Pc) : List Int × List UInt8 := ([p.k, p.l, p.s], p.d)

/-- What lay leaves of the pieces F. -/
def Laid (base : Nat) (F : List Pc) (w w' : World) (e : Ending) : Prop :=
  ((∀ p ∈ F, p.Ok) ∧ ∃ a b qs, e = .returned (.tuple #[a, b, .int .i64 0]) ∧ Pg w' base a b qs ∧ qs.map Rw.two = F.map Pc.two ∧ Below base w w') ∨
  (¬ (∀ p ∈ F, p.Ok) ∧ e = .returned (.tuple #[.slice none 0 0, .slice none 0 0, .int .i64 1]) ∧ Below base w w')

def lenV : Value → Nat
  | .slice _ n _ => n
  | _ => 0

/-- The frame, in its block. -/
def Box (w : World) (b : Nat) (N : Nat) : Prop := w.heap[b]? = some (.cells #[.int .i64 (N : Int), .func (.func 38) #[] #[]] 53 (0, 0))

theorem Box.cells {w : World} {b N : Nat} (h : Box w b N) : w.cell? ⟨b, 0, none⟩ = some (.int .i64 (N : Int)) ∧ w.cell? ⟨b, 1, none⟩ = some (.func (.func 38) #[] #[]) := by
  unfold Box at h
  simp [World.cell?, h]

theorem pc_at {rs : List Rd} {ps : List Pc} (h : rs.map Rd.key = ps.map Pc.key) {j : Nat} {p : Pc} (hp : ps[j]? = some p) : ∃ r, rs[j]? = some r ∧ r.z = [p.k, p.l, p.s] ∧ r.d = p.d := by
  have h1 : (rs.map Rd.key)[j]? = some p.key := by rw [h, List.getElem?_map, hp]; rfl
  rw [List.getElem?_map, Option.map_eq_some_iff] at h1
  obtain ⟨r, hr, e⟩ := h1
  injection e with e1 e2
  exact ⟨r, hr, e1, e2⟩

theorem key_len {rs : List Rd} {ps : List Pc} (h : rs.map Rd.key = ps.map Pc.key) : rs.length = ps.length := by
  have := congrArg List.length h
  simpa using this

theorem lay_any (N : Nat) (ps : List Pc) {v : Value} {rs : List Rd} {base : Nat} {w : World} (h : Hold w base 59 4 v rs) (hk : rs.map Rd.key = ps.map Pc.key) (h1 : ps.length ≤ N) (h4 : N ≤ 4) (hbase : base ≤ w.heap.size) :
    Calls Try.prog 24 #[frameV (N : Int), v] w fun e w' => Laid base (fill N ps) w w' e := by
  have hb := (Below.refl w.heap.size w).alloc (Nat.le_refl _) (.cells #[.int .i64 (N : Int), .func (.func 38) #[] #[]] 53)
  have hbx : Box (w.alloc (.cells #[.int .i64 (N : Int), .func (.func 38) #[] #[]] 53)) w.heap.size N := heap_alloc_new w _
  have H := Lib.hid (h.below hb)
  have HB := Lib.hid (hb.mono hbase)
  have HBX := Lib.hid hbx
  have HK := Lib.hid hk
  have HBS := Lib.hid hbase
  obtain ⟨A0, c0, hv, _⟩ := h.form
  subst hv
  clear h hb hbx hk hbase
  go_enter Try.func24, Try.ntmps24
  go_wp2
  go_loopw [1] (fun v wr => ∃ rs' ps', Hold wr base 59 4 v rs' ∧ rs'.map Rd.key = ps'.map Pc.key ∧ ps'.length ≤ N ∧ fill N ps' = fill N ps ∧ Box wr w.heap.size N ∧ Below base w wr ∧ base ≤ wr.heap.size) (fun v _ => N - lenV v)
  case atStart => exact ⟨rs, ps, H.out, HK.out, h1, rfl, HBX.out, HB.out, by simp; have := HBS.out; omega⟩
  case round =>
    obtain ⟨W, rfl⟩ : ∃ W, W = wr := ⟨_, rfl⟩
    obtain ⟨rs', ps', hh, hkey, hle, hfill, hbox, hbel, hbs⟩ := hrel
    obtain ⟨m, hm1⟩ : ∃ m, rs'.length = m := ⟨_, rfl⟩
    have hm2 : ps'.length = m := (key_len hkey).symm.trans hm1
    obtain ⟨A, c, hv, hmc, hcm, hA⟩ := hh.form
    rw [hm1] at hv hmc hA
    subst hv
    rw [hm2] at hle
    obtain ⟨b0, b1⟩ := hbox.cells
    have HH := Lib.hid hh
    have HKEY := Lib.hid hkey
    have HFILL := Lib.hid hfill
    have HBOX := Lib.hid hbox
    have HBEL := Lib.hid hbel
    have HBS2 := Lib.hid hbs
    have HA := Lib.hid hA
    have HM1 := Lib.hid hm1
    have HM2 := Lib.hid hm2
    clear hh hkey hfill hbox hbel H HB HBX HK hA hm1 hm2
    by_cases hlt : m < N
    · have hlt2 : (m : Int) < (N : Int) := by omega
      go_wp2_with fail
      refine (pad_any _).mono ?_
      rintro e w2 ⟨g, rfl, ho, hb⟩
      have hh2 := HH.out.below hb
      have hbs2 : base ≤ w2.heap.size := Nat.le_trans HBS2.out hb.size
      obtain ⟨Ap, cp, e1, e2, e3⟩ := lie_own ho (v := .slice A m c) (fun k hk => HH.out.rows.lt k hk)
      injection e1 with e1 e5 e4
      subst e1 e4
      clear e5
      obtain ⟨A6, c6, w6, hrun, hh6, hb6, hs6, hk6⟩ := hold_append (P := Try.prog) (ty := 56) w2 (by omega) Try.underlying56 infoP hh2 ⟨[3, 0, 0], some ⟨g, 0, none⟩, 16, zeros⟩ rfl (by rw [HM1.out]; omega) hbs2 e2 e3
      have hbox2 : Box w2 w.heap.size N := (hb.block _ (Array.getElem?_eq_some_iff.1 HBOX.out).1).trans HBOX.out
      have hbox6 : Box w6 w.heap.size N := (hk6 _ (Array.getElem?_eq_some_iff.1 hbox2).1 (hh2.ne hbox2 (by decide))).trans hbox2
      have HEND := Lib.hid (show Hold w6 base 59 4 (.slice A6 (m + 1) c6) (rs' ++ [Rd.mk [3, 0, 0] (some ⟨g, 0, none⟩) 16 zeros]) ∧ (rs' ++ [Rd.mk [3, 0, 0] (some ⟨g, 0, none⟩) 16 zeros]).map Rd.key = (ps' ++ [pad]).map Pc.key ∧ (ps' ++ [pad]).length ≤ N ∧ fill N (ps' ++ [pad]) = fill N ps ∧ Box w6 w.heap.size N ∧ Below base w w6 ∧ base ≤ w6.heap.size by
        rw [HM1.out] at hh6
        refine ⟨hh6, ?_, by rw [List.length_append, List.length_singleton, HM2.out]; omega, ?_, hbox6, (HBEL.out.trans (hb.mono HBS2.out)).trans hb6, by omega⟩
        · rw [List.map_append, List.map_append, HKEY.out]
          rfl
        · rw [fill_more (by rw [HM2.out]; exact hlt)]
          exact HFILL.out)
      have hrun2 : (Builtin.append_ #[56, 56] 56 #[.slice A m c, .slice (some ⟨w2.heap.size, 0, none⟩) 1 1]).run Try.prog (w2.alloc (.cells #[.int .i64 3, .int .i64 0, .int .i64 0, .slice (some ⟨g, 0, none⟩) 16 16] 59)) = .ok (.slice A6 (m + 1) c6) w6 := by
        rw [HM1.out] at hrun
        exact hrun
      clear hrun hh2 hh6 hb hb6 hs6 hk6 hbox2 hbox6 e2 e3 ho
      go_wp2_with (at_builtin; refine wpList_append_run rfl _ _ _ rfl (.slice A m c) (.slice (some ⟨w2.heap.size, 0, none⟩) 1 1) _ rfl rfl (fun _ => hrun2) ?_)
      go_wp2
      go_roundw
      case measure => simp [lenV]; omega
      case rel => exact ⟨_, _, HEND.out⟩
    · obtain rfl : m = N := by omega
      have hfs : fill m ps' = ps' := fill_self (by rw [HM2.out]; exact Nat.le_refl _)
      have HF := Lib.hid (HFILL.out.symm.trans hfs)
      clear hfs HFILL
      have HP0 := Lib.hid (pg_nil W W.heap.size)
      go_wp2
      go_loopw [7, 8, 26] (fun a b i w2 => ∃ (j : Nat) (qs : List Rw), i = .int .i64 (j : Int) ∧ j ≤ m ∧ (∀ p ∈ ps'.take j, p.Ok) ∧ Pg w2 W.heap.size a b qs ∧ qs.map Rw.two = (ps'.take j).map Pc.two ∧ Below W.heap.size W w2) (fun _ _ i _ => m - (intOf i).toNat)
      case atStart => exact ⟨0, [], rfl, by omega, by simp, HP0.out, rfl, Below.refl _ _⟩
      case round =>
        obtain ⟨j, qs, rfl, hj, hok, hpg, htwo, hbw⟩ := hrel
        have hqs : qs.length = j := by have := congrArg List.length htwo; simp at this; have h2 := HM2.out; omega
        obtain ⟨A1, c1, A2, c2, ha, hb', _⟩ := hpg.reads
        rw [hqs] at ha hb'
        subst ha hb'
        have HOK := Lib.hid hok
        have HPG := Lib.hid hpg
        have HTWO := Lib.hid htwo
        have HBW := Lib.hid hbw
        have HQS := Lib.hid hqs
        clear hok hpg htwo hbw hqs
        by_cases hjm : j < m
        · have hjm2 : (j : Int) < (m : Int) := by omega
          have hj0 : (0 : Int) ≤ (j : Int) := by omega
          obtain ⟨p, hp⟩ : ∃ p, ps'[j]? = some p := ⟨_, List.getElem?_eq_getElem (by rw [HM2.out]; exact hjm)⟩
          obtain ⟨r, hr, hz, hd⟩ := pc_at HKEY.out hp
          obtain ⟨g, hA, _, _⟩ := HA.out (by omega)
          subst hA
          obtain ⟨z, Ar, cr, d⟩ := r
          obtain ⟨k, l, s, dp⟩ := p
          dsimp only at hz hd
          subst hz hd
          have hh := HH.out.below HBW.out
          have k0 := hh.cell hr (j := 0) rfl
          have k1 := hh.cell hr (j := 1) rfl
          have k2 := hh.cell hr (j := 2) rfl
          have k3 := hh.cell hr (j := 3) rfl
          rw [Nat.add_zero] at k0
          have hby := hh.bytes (List.mem_of_getElem? hr)
          have HBY := Lib.hid hby
          have HPJ := Lib.hid hp
          clear hh hby hr hp
          dsimp only at k0 k1 k2 k3 HBY
          have hbx := (Below.refl wr.heap.size wr).alloc (Nat.le_refl _) (.cells #[.int .i64 k, .int .i64 l, .int .i64 s, .slice Ar d.length cr] 59)
          have HBX := Lib.hid hbx
          have HX := Lib.hid (heap_alloc_new wr (.cells #[.int .i64 k, .int .i64 l, .int .i64 s, .slice Ar d.length cr] 59))
          have HBYX := Lib.hid (bytes_more (bytes_keep HBY.out hbx) hbx.size)
          by_cases hpk : (Pc.mk k l s d).Ok
          · have h16 : d.length = 16 := hpk.2
            rw [h16] at k3 HBX HX HBYX HBY
            have HPK := Lib.hid hpk
            have HP := Lib.hid (OobPkg.Pack_new k l s Ar cr d _ hpk.1 HBYX.out)
            clear hbx hpk
            go_wp2_with fail
            refine HP.out.mono ?_
            rintro e w2 ⟨gh, rfl, hgh, ha, hb⟩
            have hx2 := (hb.block wr.heap.size (by simp)).trans HX.out
            obtain ⟨y0, y1, y2, y3, _⟩ := four_cells hx2
            have hwx : wr.heap.size ≤ gh := by simp at hgh; omega
            have hb2 : Below wr.heap.size wr w2 := below_on HBX.out hb (by simp)
            have HB2 := Lib.hid hb2
            have HPG2 := Lib.hid (HPG.out.below hb2)
            have HA2 := Lib.hid ha
            have HC := Lib.hid (clone_any Ar 16 cr wr.heap.size d w2 (by omega) (bytes_keep HBY.out hb2) hb2.size)
            clear hx2 ha hb hb2 hgh HP
            go_wp2_with fail
            refine HC.out.mono ?_
            rintro e w3 ⟨v3, rfl, ho3, hb3⟩
            obtain ⟨g3, hg3, hl3⟩ := lies_own ho3 (by rw [h16]; omega)
            obtain ⟨c3, hv3, _⟩ := hl3.form
            rw [h16] at hv3
            subst hv3
            have hlh : Lies w2 gh (.slice (some ⟨gh, 0, none⟩) 17 17) (Pc.mk k l s d).code := by
              have h := lies_arr HA2.out (by decide) (by rw [Oob.full_len]; decide)
              rw [Oob.full_len] at h
              exact h
            have hpg3 := HPG2.out.below hb3
            have HL3 := Lib.hid hl3
            have HLH := Lib.hid (hlh.keep (hb3.block gh hlh.lt))
            have HG3 := Lib.hid (show gh < g3 from Nat.lt_of_lt_of_le hlh.lt hg3)
            have HB3 := Lib.hid (below_on HB2.out hb3 HB2.out.size)
            have HPG3 := Lib.hid hpg3
            have HO1 := Lib.hid hpg3.own1
            have hbase3 : W.heap.size ≤ w3.heap.size := Nat.le_trans HBW.out.size HB3.out.size
            clear ho3 hb3 hl3 hlh hpg3 HC HA2 HPG2 y0 y1 y2 y3
            go_wp2_with (at_builtin; refine wpList_append_slice _ rfl _ _ _ rfl W.heap.size 40 Try.underlying25 infoS (.slice A1 j c1) (qs.map Rw.x) rfl HO1.out (some ⟨g3, 0, none⟩) 16 c3 rfl (by rw [List.length_map, HQS.out]; omega) hbase3 ?_)
            intro v1' w4 ho1 hg1 hl1
            have hg1' := (World.grownBy_alloc w3 (.cells #[.slice (some ⟨g3, 0, none⟩) 16 c3] 40) _).trans hg1
            obtain ⟨A1', c1', hv1, _⟩ := ho1.reads
            rw [List.length_append, List.length_map, HQS.out, List.length_singleton] at hv1
            subst hv1
            have hk2 : OwnV w4 W.heap.size 40 (.slice A2 j c2) (qs.map Rw.y) := HPG3.out.own2.keep fun b hb => hg1'.block b (HPG3.out.own2.lt b hb) (fun e => HPG3.out.apart b e.symm hb)
            have HO1' := Lib.hid ho1
            have HG1 := Lib.hid hg1'
            have HL1 := Lib.hid hl1
            have HK2 := Lib.hid hk2
            have hbase4 : W.heap.size ≤ w4.heap.size := Nat.le_trans hbase3 hg1'.size
            clear ho1 hg1 hg1' hl1 hk2 HO1
            go_wp2_with (at_builtin; refine wpList_append_slice _ rfl _ _ _ rfl W.heap.size 40 Try.underlying25 infoS (.slice A2 j c2) (qs.map Rw.y) rfl HK2.out (some ⟨gh, 0, none⟩) 17 17 rfl (by rw [List.length_map, HQS.out]; omega) hbase4 ?_)
            intro v2' w5 ho2 hg2 hl2
            have hg2' := (World.grownBy_alloc w4 (.cells #[.slice (some ⟨gh, 0, none⟩) 17 17] 40) _).trans hg2
            obtain ⟨A2', c2', hv2, _⟩ := ho2.reads
            rw [List.length_append, List.length_map, HQS.out, List.length_singleton] at hv2
            subst hv2
            have HEND := Lib.hid (show (∀ p ∈ ps'.take (j + 1), p.Ok) ∧ Pg w5 W.heap.size (.slice A1' (j + 1) c1') (.slice A2' (j + 1) c2') (qs ++ [⟨.slice (some ⟨g3, 0, none⟩) 16 c3, .slice (some ⟨gh, 0, none⟩) 17 17, g3, gh, d, (Pc.mk k l s d).code⟩]) ∧ (qs ++ [Rw.mk (.slice (some ⟨g3, 0, none⟩) 16 c3) (.slice (some ⟨gh, 0, none⟩) 17 17) g3 gh d (Pc.mk k l s d).code]).map Rw.two = (ps'.take (j + 1)).map Pc.two ∧ Below W.heap.size W w5 by
              have ht : ps'.take (j + 1) = ps'.take j ++ [Pc.mk k l s d] := by rw [List.take_add_one, HPJ.out]; rfl
              rw [ht]
              refine ⟨fun p hp => ?_, ?_, ?_, ?_⟩
              · rcases List.mem_append.1 hp with hp | hp
                · exact HOK.out p hp
                · rw [List.mem_singleton.1 hp]
                  exact HPK.out
              · exact HPG3.out.snoc ⟨.slice (some ⟨g3, 0, none⟩) 16 c3, .slice (some ⟨gh, 0, none⟩) 17 17, g3, gh, d, (Pc.mk k l s d).code⟩ HL3.out HLH.out (Nat.le_trans HBW.out.size hwx) HG3.out (fun q hq => Nat.lt_of_lt_of_le (HPG.out.lie q hq).1.lt hwx) HG1.out HO1'.out HL1.out hg2' ho2 hl2
              · rw [List.map_append, List.map_append, HTWO.out]
                rfl
              · exact (((HBW.out.trans (HB3.out.mono HBW.out.size)).grown HG1.out hbase3 (fun b hb => HPG3.out.own1.block b hb)).grown hg2' hbase4 (fun b hb => HK2.out.block b hb)))
            clear ho2 hg2 hg2' hl2
            go_wp2
            go_roundw
            case measure => simp [intOf]; omega
            case rel => exact ⟨j + 1, _, by go_num, by omega, HEND.out⟩
          · have HPK := Lib.hid hpk
            have HP := Lib.hid (fun w => OobPkg.Pack_bad k l s Ar d.length cr w hpk)
            clear hbx hpk
            go_wp2_with fail
            refine (HP.out _).mono ?_
            rintro e w2 ⟨rfl, hb⟩
            have HEND := Lib.hid (show Laid base (fill m ps) w w2 (.returned (.tuple #[.slice none 0 0, .slice none 0 0, .int .i64 1])) from
              .inr ⟨fun h => HPK.out (h _ (List.mem_of_getElem? (by rw [HF.out]; exact HPJ.out))), rfl, (HBEL.out.trans (HBW.out.mono HBS2.out)).trans ((below_on HBX.out hb (by simp)).mono (Nat.le_trans HBS2.out HBW.out.size))⟩)
            clear hb
            go_wp2
            go_ret3
            exact HEND.out
        · obtain rfl : j = m := by omega
          have ht : ps'.take j = ps' := List.take_of_length_le (by rw [HM2.out]; exact Nat.le_refl _)
          have HEND := Lib.hid (show Laid base (fill j ps) w wr (.returned (.tuple #[.slice A1 j c1, .slice A2 j c2, .int .i64 0])) by
            rw [HF.out]
            refine .inl ⟨by rw [← ht]; exact HOK.out, _, _, qs, rfl, HPG.out.le HBS2.out, by rw [HTWO.out, ht], HBEL.out.trans (HBW.out.mono HBS2.out)⟩)
          go_wp2
          go_ret3
          exact HEND.out

end Go.Proofs.Yteonjdigcecceaa.PagePkg
