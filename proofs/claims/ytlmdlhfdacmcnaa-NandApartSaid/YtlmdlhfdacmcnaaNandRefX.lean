/-
  What the document's answer for layer 8 does: Program, of a page that may be programmed: whatever comes of it.
-/
import Derived.Test.YtlmdlhfdacmcnaaNandRefQ
import Derived.Test.YtlmdlhfdacmcnaaNandRefV
import Derived.Test.YtlmdlhfdacmcnaaNandRefW
namespace Go.Proofs.Ytlmdlhfdacmcnaa.NandRef
open Go.RowKit Nand NandPkg
set_option maxRecDepth 4000

section
variable {G : Shape} {w : World} {P : Pl} {st : St} {D : Nat → Prop}

theorem Program_any (hG : G.Ok) (hinv : Inv G st) (h : Ref G w P st) (u b g : Int) (A A2 : Option Addr) (n n2 c c2 : Nat) (dat oob : List (List UInt8)) (hca : Came w D A n A2 n2 dat oob) (hD : ∀ b, D b → ¬ P.own b) (hJ : P.J ≤ 100000) (hk1 : st.many < 4611686018427387904) :
    Calls Try.prog 45 #[ptr P.g, .int .i64 u, .int .i64 b, .int .i64 g, .slice A n c, .slice A2 n2 c2] w fun e w' => e = .returned (.int .i64 (st.program G u b g dat oob).1) ∧ ∃ P', P'.g = P.g ∧ Ref G w' P' (st.program G u b g dat oob).2 ∧ Turn P.own P'.own w w' ∧ P'.J ≤ P.J + 1 := by
  have up : ∀ {e : Ending} {w' : World} {x : Int} {s' : St}, (e = .returned (.int .i64 x) ∧ Ref G w' P s' ∧ Turn P.own P.own w w') → e = .returned (.int .i64 x) ∧ ∃ P', P'.g = P.g ∧ Ref G w' P' s' ∧ Turn P.own P'.own w w' ∧ P'.J ≤ P.J + 1 := fun h => ⟨h.1, P, rfl, h.2.1, h.2.2, Nat.le_succ _⟩
  unfold St.program
  by_cases hoff : st.off = true
  · rw [if_pos hoff]
    refine (prog_off h hoff u b g _ _).mono ?_
    rintro e w2 ⟨rfl, rfl⟩
    exact ⟨rfl, P, rfl, h, Turn.refl _ _, Nat.le_succ _⟩
  · rw [if_neg hoff]
    replace hoff : st.off = false := by simpa using hoff
    by_cases hm : st.may G u b g dat oob = 0
    · rw [if_neg (fun h => h hm)]
      have hsb := Plan.says_bd st.plan
      have hs1 : 1 ≤ G.s := hG.may.2.2.2.2.2.2.2.2.1
      have hml := many_le st.plan (s := G.s) (by omega)
      by_cases h1 : Plan.says st.plan = 1
      · rw [if_pos h1]
        exact prog_fail hG hinv h hoff u b g A A2 n n2 c c2 dat oob hca hD hm hJ hk1 h1 0 rfl
      · rw [if_neg h1]
        by_cases h2 : Plan.says st.plan = 2
        · rw [if_pos h2]
          exact prog_cut hG hinv h hoff u b g A A2 n n2 c c2 dat oob hca hD hm hJ hk1 h2 _ (by omega)
        · rw [if_neg h2]
          exact prog_good hG hinv h hoff u b g A A2 n n2 c c2 dat oob hca hD hm hJ hk1 (by omega) _ (by omega)
    · rw [if_pos hm]
      by_cases hmb : mayBe G u b g dat oob
      · by_cases hrt : st.rt (blk G u b) = true
        · have e : st.may G u b g dat oob = 10 := by unfold St.may; rw [if_neg (fun h => h hmb), if_pos hrt]
          rw [e]
          exact (prog_e6 hG h hoff u b g A A2 n n2 c c2 dat oob hca hmb hrt).mono fun e w' h => up h
        · have hrt2 : st.rt (blk G u b) = false := by simpa using hrt
          by_cases hnx : g = st.nx (blk G u b)
          · exact absurd (may_good hmb hrt2 hnx) hm
          · have e : st.may G u b g dat oob = 7 := by unfold St.may; rw [if_neg (fun h => h hmb), if_neg hrt, if_pos hnx]
            rw [e]
            exact (prog_e7 hG h hoff u b g A A2 n n2 c c2 dat oob hca hmb hrt2 hnx).mono fun e w' h => up h
      · have e : st.may G u b g dat oob = 1 := by unfold St.may; rw [if_pos hmb]
        rw [e]
        by_cases hh : has G u b
        · by_cases hg0 : g < 0
          · exact (prog_e2 hG h hoff u b g A A2 n n2 c c2 dat oob hca hh hg0).mono fun e w' h => up h
          · by_cases hg1 : G.p ≤ g
            · exact (prog_e3 hG h hoff u b g A A2 n n2 c c2 dat oob hca hh (by omega) hg1).mono fun e w' h => up h
            · by_cases hf1 : fit dat G.s 16
              · by_cases hf2 : fit oob G.s 17
                · exact absurd ⟨hh, by omega, by omega, hf1, hf2⟩ hmb
                · exact (prog_e5 hG h hoff u b g A A2 n n2 c c2 dat oob hca hh (by omega) (by omega) hf1 hf2).mono fun e w' h => up h
              · exact (prog_e4 hG h hoff u b g A A2 n n2 c c2 dat oob hca hh (by omega) (by omega) hf1).mono fun e w' h => up h
        · exact (prog_e1 hG h hoff u b g A A2 n n2 c c2 dat oob hca hh).mono fun e w' h => up h
end

end Go.Proofs.Ytlmdlhfdacmcnaa.NandRef
