/-
  What the laws of layer 8 begin with: a device behind some ops.
-/
import Derived.Test.YtlmdlhfdacmcnaaNandDoes
import Derived.Test.YtlmdlhfdacmcnaaNandOps
namespace Go.Proofs.Ytlmdlhfdacmcnaa.NandLaw
open Go.RowKit Nand NandPkg NandOps
set_option maxRecDepth 4000

section
variable {G : Shape} {w : World}

theorem step_many (st : St) (o : Opn) (h : 0 ≤ st.many) : 0 ≤ (step G st o).many ∧ (step G st o).many ≤ st.many + 1 := by
  unfold step
  split
  · exact program_many _ _ _ _ _ h
  split
  · exact erase_many _ _ h
  split
  · exact ⟨h, by omega⟩
  split
  · rw [retire_many]
    exact ⟨h, by omega⟩
  split
  · split
    · exact ⟨by show (0 : Int) ≤ 0; omega, by show (0 : Int) ≤ st.many + 1; omega⟩
    · exact ⟨h, by omega⟩
  split
  · exact ⟨h, by show st.many ≤ st.many + 1; omega⟩
  · exact ⟨h, by omega⟩

/-- Both, behind k ops. -/
def Mid (G : Shape) (w : World) (gd gr : Nat) (k : Nat) (wr : World) : Prop :=
  ∃ (P : NandPkg.Pl) (Q : NandRef.Pl) (st : St), P.g = gd ∧ Q.g = gr ∧ Both G wr P Q st ∧ (∀ b, P.own b ∨ Q.own b → w.heap.size ≤ b) ∧ Q.J ≤ k ∧ 0 ≤ st.many ∧ st.many ≤ k ∧ Below w.heap.size w wr

theorem begun_bad (c l k p s : Int) (h : ¬ Geom.ok c l k p s) (V : Value) :
    Calls Try.prog 24 #[.agg #[.int .i64 c, .int .i64 l, .int .i64 k, .int .i64 p, .int .i64 s], V] w fun e w' => e = .returned (.pointer none) ∧ Below w.heap.size w w' := by
  have HB := Lib.hid ((Below.refl w.heap.size w).alloc (Nat.le_refl _) (.cells #[.int .i64 c, .int .i64 l, .int .i64 k, .int .i64 p, .int .i64 s] 23))
  have HG := Lib.hid (geo_new w 23 c l k p s)
  have H1 := Lib.hid (fun w V => NandPkg.new_bad (w := w) c l k p s h V)
  have H2 := Lib.hid (fun w V => NandRef.new_bad (w := w) c l k p s h V)
  obtain ⟨k0, k1, k2, k3, k4⟩ := HG.out
  clear h
  go_enter Try.func24, Try.ntmps24
  go_wp2_with fail
  refine (H1.out _ _).mono ?_
  rintro e w2 ⟨rfl, hb⟩
  replace HB := Lib.hid (below_then HB.out hb)
  replace HG := Lib.hid (geo_keep HG.out hb)
  clear k0 k1 k2 k3 k4 hb
  obtain ⟨k0, k1, k2, k3, k4⟩ := HG.out
  go_wp2_with fail
  refine (H2.out _ _).mono ?_
  rintro e w3 ⟨rfl, hb⟩
  replace HB := Lib.hid (below_then HB.out hb)
  clear hb
  go_wp2
  go_ret
  exact ⟨rfl, HB.out⟩

set_option maxHeartbeats 1600000 in
theorem begun_any (hG : G.Ok) (A : Option Addr) (n c : Nat) (hn : n ≤ maxLen) (hops : Ops w w.heap.size A n) :
    Calls Try.prog 24 #[geoV G, .slice A n c] w fun e w' => ∃ (P : NandPkg.Pl) (st : St), e = .returned (ptr P.g) ∧ Dev G w' P st ∧ st.off = false ∧ st.plan = [] ∧ st.many = 0 ∧ Inv G st ∧ (∀ b, P.own b → w.heap.size ≤ b) ∧ Below w.heap.size w w' := by
  have hnm : n ≤ 9223372036854775807 := hn
  have HB := Lib.hid ((Below.refl w.heap.size w).alloc (Nat.le_refl _) (.cells #[.int .i64 G.c, .int .i64 G.l, .int .i64 G.k, .int .i64 G.p, .int .i64 G.s] 23))
  have HGE := Lib.hid (geo_new w 23 G.c G.l G.k G.p G.s)
  have HG := Lib.hid hG
  have HOPS := Lib.hid hops
  obtain ⟨k0, k1, k2, k3, k4⟩ := HGE.out
  have hnil : ∀ (w : World), Nums w 0 none 0 [] := fun w => ⟨rfl, fun i hi => absurd hi (by simp)⟩
  clear hG hops hn
  go_enter Try.func24, Try.ntmps24
  go_wp2_with fail
  refine (NandPkg.New_any HG.out none 0 0 0 [] (by omega) (hnil _) (Nat.zero_le _)).mono ?_
  rintro e w2 ⟨hor, hb⟩
  rcases hor with ⟨_, P, rfl, hd, hup⟩ | ⟨hno, _⟩
  rotate_left
  · exact absurd (fun z hz => by simp at hz) hno
  have hs1 := HB.out.size
  replace HB := Lib.hid (below_then HB.out hb)
  replace HGE := Lib.hid (geo_keep HGE.out hb)
  have HD := Lib.hid hd
  have HUP : Hid (∀ b, P.own b → w.heap.size ≤ b) := Lib.hid (fun b hb => Nat.le_trans hs1 (hup b hb))
  clear k0 k1 k2 k3 k4 hb hd hup hs1
  obtain ⟨k0, k1, k2, k3, k4⟩ := HGE.out
  go_wp2_with fail
  refine (NandRef.New_any HG.out none 0 0 0 [] (by omega) (hnil _) (Nat.zero_le _)).mono ?_
  rintro e w3 ⟨hor, hb⟩
  rcases hor with ⟨_, Q, rfl, hr, hup, hj⟩ | ⟨hno, _⟩
  rotate_left
  · exact absurd (fun z hz => by simp at hz) hno
  have hs1 := HB.out.size
  have HM : Hid (Mid G w P.g Q.g 0 w3) := Lib.hid ⟨P, Q, _, rfl, rfl, ⟨HD.out.below hb, hr, Inv.fresh HG.out _, fun b hp hq => by have := HD.out.lt b hp; have := hup b hq; omega⟩, fun b hb => hb.elim (HUP.out b) (fun h => Nat.le_trans hs1 (hup b h)), by omega, by show (0 : Int) ≤ 0; omega, by show (0 : Int) ≤ _; omega, below_then HB.out hb⟩
  generalize P.g = gd at HM
  generalize Q.g = gr at HM
  clear k0 k1 k2 k3 k4 hb hr hup hs1 hj HD HUP HB HGE hnil
  go_wp2
  go_loopw [9] (fun i wr => ∃ k : Nat, i = .int .i64 k ∧ k ≤ n ∧ k ≤ 40 ∧ Mid G w gd gr k wr) (fun i _ => 40 - (intOf i).toNat)
  case atStart => exact ⟨0, rfl, by omega, by omega, HM.out⟩
  case round =>
    obtain ⟨k, rfl, hk, hk40, P, Q, st, rfl, rfl, hboth, hup, hj, hm0, hm1, hbw⟩ := hrel
    have HBO := Lib.hid hboth
    have HUP := Lib.hid hup
    have HBW := Lib.hid hbw
    clear hboth hup hbw HM
    by_cases hlt : k < n ∧ k < 40
    · have d1 : decide ((k : Int) < (n : Int)) = true := by simp; omega
      have d2 : decide ((k : Int) < 40) = true := by simp; omega
      obtain ⟨b, off, x0, x1, x2, x3, x4, odd, xs, Ap, np, cp, rfl, hop⟩ := HOPS.out.keep HBW.out k hlt.1
      obtain ⟨c0, c1, c2, c3, c4, c5, c6, hbl, hf1, hf2, hpl⟩ := hop
      have HDO := Lib.hid (does_any HG.out HBO.out ⟨x0, x1, x2, x3, x4, odd, xs⟩ Ap np cp w.heap.size hpl HBW.out.size HUP.out (by omega) hm0 (by omega))
      have HSM := Lib.hid (step_many (G := G) st ⟨x0, x1, x2, x3, x4, odd, xs⟩ hm0)
      generalize step G st ⟨x0, x1, x2, x3, x4, odd, xs⟩ = s' at HDO HSM
      have hkn := hlt.1
      have hk4 := hlt.2
      clear hpl hf1 hf2 hbl hlt
      go_wp2_with fail
      refine HDO.out.mono ?_
      rintro e w4 ⟨rfl, P', Q', hg1, hg2, hb2, hbb, hup2, hj2⟩
      have HM2 : Hid (Mid G w P.g Q.g (k + 1) w4) := Lib.hid ⟨P', Q', s', hg1, hg2, hb2, hup2, by omega, HSM.out.1, by have := HSM.out.2; omega, HBW.out.trans hbb⟩
      clear hg1 hg2 hb2 hbb hup2 hj2 c0 c1 c2 c3 c4 c5 c6
      go_wp2
      go_roundw
      case measure => simp [intOf]; omega
      case rel => exact ⟨k + 1, by go_num, by omega, by omega, HM2.out⟩
    · go_wp2_with fail
      all_goals
        refine (Power_any HBO.out.dev).mono ?_
        rintro e w4 ⟨rfl, hd4, ht4⟩
        have HB4 : Hid (Below w.heap.size w w4) := Lib.hid (HBW.out.trans (ht4.below (fun b hb => HUP.out b (Or.inl hb)) HBW.out.size))
        have HPN := Lib.hid (Plan_any hd4 none 0 0 0 [] (by omega) ⟨rfl, fun i hi => absurd hi (by simp)⟩ (Nat.zero_le _))
        clear hd4 ht4
        go_wp2_with fail
        refine HPN.out.mono ?_
        rintro e w5 ⟨rfl, P', hg', hd5, ht5⟩
        have HB5 : Hid (Below w.heap.size w w5) := Lib.hid (HB4.out.trans (ht5.below (fun b hb => HUP.out b (Or.inl hb)) HB4.out.size))
        have HU5 : Hid (∀ b, P'.own b → w.heap.size ≤ b) := Lib.hid (ht5.up (fun b hb => HUP.out b (Or.inl hb)) HB4.out.size)
        have HD5 := Lib.hid hd5
        clear hd5 ht5
        go_wp2
        go_ret
        exact ⟨P', _, by rw [hg']; rfl, HD5.out, rfl, rfl, rfl, HBO.out.inv, HU5.out, HB5.out⟩
end

end Go.Proofs.Ytlmdlhfdacmcnaa.NandLaw
