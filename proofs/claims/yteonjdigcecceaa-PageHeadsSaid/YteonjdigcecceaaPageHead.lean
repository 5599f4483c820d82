/-
  What package page's Head does, whatever it is given.
-/
import Derived.Test.YteonjdigcecceaaPageBuild
import Derived.Test.YteonjdigcecceaaMarkSector
namespace Go.Proofs.Yteonjdigcecceaa.PagePkg
open Go.RowKit Go.ChangeShapes Go.WideShapes Page
set_option maxRecDepth 4000

/-- The pieces of a mark's page. -/
def heads (l r s : Int) : List Pc := if Mark.Ok l r s then [⟨4, l, s, Mark.code l r s⟩] else []

theorem head_ok {l r s : Int} (h : Mark.Ok l r s) : (Pc.mk 4 l s (Mark.code l r s)).Ok := by
  refine ⟨?_, rfl⟩
  unfold Mark.Ok at h
  show Oob.Ok 4 l s
  unfold Oob.Ok
  omega

theorem two_cells {w : World} {g : Nat} {t : TypeId} {x0 x1 : Value} (h : w.heap[g]? = some (.cells #[x0, x1] t (0, 0))) : w.cell? ⟨g, 0, none⟩ = some x0 ∧ w.cell? ⟨g, 1, none⟩ = some x1 := by
  simp [World.cell?, h]

/-- One row, of the call's own. -/
theorem hold_lit {w : World} {e : TypeId} {sz : Nat} (r : Rd) (hsz : r.z.length + 1 = sz) (hc : r.d.length ≤ r.c ∧ r.c ≤ maxLen) (hd : Bytes w w.heap.size r.A r.d.length r.d) :
    Hold (w.alloc (.cells r.cells.toArray e)) w.heap.size e sz (.slice (some ⟨w.heap.size, 0, none⟩) 1 1) [r] := by
  have hl : r.cells.length = sz := by simp [Rd.cells, hsz]
  have hb := (Below.refl w.heap.size w).alloc (Nat.le_refl _) (.cells r.cells.toArray e)
  refine ⟨⟨⟨by simp [hl], .inr ⟨w.heap.size, 1, r.cells.toArray, rfl, Nat.le_refl _, heap_alloc_new w _, by simp, by decide, by simp [hl], by simp [← hl]⟩⟩, fun c hc => by simp at hc; rw [hc, hl]⟩, fun q hq => ?_⟩
  rw [List.mem_singleton.1 hq]
  exact ⟨hc.1, hc.2, lie_old (bytes_keep hd hb) hb.size (fun k hk => by simp [Value.ownBlock] at hk; omega)⟩

theorem Head_any (n l r s : Int) (w : World) :
    Calls Try.prog 14 #[.int .i64 n, OobPkg.tri l r s] w fun e w' => Built n (heads l r s) w w' e := by
  have HBM := Lib.hid ((Below.refl w.heap.size w).alloc (Nat.le_refl _) (.cells #[.int .i64 l, .int .i64 r, .int .i64 s] 33))
  have HM := Lib.hid (OobPkg.Three.new 33 w l r s)
  have HP := Lib.hid (fun w => padded_any n w)
  have HF := Lib.hid (show ∀ w, Calls Try.prog 22 #[frameV n, .int .i64 1] w fun e w' => e = .returned (.bool (decide (fits n 1))) ∧ Below w.heap.size w w' from fun w => fits_any n (.func 38) #[] #[] 1 w)
  by_cases hok : Mark.Ok l r s
  · have HSEC := Lib.hid (fun w => MarkPkg.Sector_ok hok w)
    have HOOB := Lib.hid (fun w => MarkPkg.Oob_ok hok w)
    have hh : heads l r s = [⟨4, l, s, Mark.code l r s⟩] := if_pos hok
    rw [hh]
    have HOK := Lib.hid (head_ok hok)
    clear hh hok
    obtain ⟨cd, hcd⟩ : ∃ cd, cd = Mark.code l r s := ⟨_, rfl⟩
    rw [← hcd] at HOK ⊢
    simp only [← hcd] at HSEC
    have HCD := Lib.hid (show cd.length = 16 by rw [hcd]; rfl)
    clear hcd
    by_cases hf : fits n 1
    · rw [decide_eq_true hf] at HF
      obtain ⟨N, rfl⟩ : ∃ N : Nat, n = (N : Int) := ⟨n.toNat, by unfold fits at hf; omega⟩
      have h1N : 1 ≤ N := by unfold fits at hf; omega
      have hN4 : N ≤ 4 := by unfold fits at hf; omega
      have HFT := Lib.hid hf
      clear hf
      go_enter Try.func14, Try.ntmps14
      go_wp2_with fail
      refine (HP.out _).mono ?_
      rintro e w2 ⟨rfl, hb2⟩
      have HB2 := Lib.hid ((below_on HBM.out hb2 HBM.out.size).alloc (Nat.le_trans HBM.out.size hb2.size) (.cells #[.int .i64 (N : Int), .func (.func 38) #[] #[]] 53))
      have HX2 := Lib.hid (heap_alloc_new w2 (.cells #[.int .i64 (N : Int), .func (.func 38) #[] #[]] 53))
      have HM2 := Lib.hid ((HM.out.keep hb2).old (.cells #[.int .i64 (N : Int), .func (.func 38) #[] #[]] 53))
      have m0 := HM2.out.c0
      have m1 := HM2.out.c1
      have m2 := HM2.out.c2
      clear hb2 HP
      go_wp2_with fail
      refine (HSEC.out _).mono ?_
      rintro e w3 ⟨As, rfl, hr3, hb3⟩
      have HB3 := Lib.hid (below_on HB2.out hb3 HB2.out.size)
      have HX3 := Lib.hid ((hb3.block w2.heap.size (by simp)).trans HX2.out)
      obtain ⟨x0, x1⟩ := two_cells HX3.out
      have HM3 := Lib.hid (HM2.out.keep hb3)
      clear hb3 m0 m1 m2 HSEC HM HM2 HB2 HX2
      go_wp2_with fail
      refine (HF.out _).mono ?_
      rintro e w4 ⟨rfl, hb4⟩
      have HB4 := Lib.hid (below_on HB3.out hb4 HB3.out.size)
      have HX4 := Lib.hid ((hb4.block w2.heap.size (Array.getElem?_eq_some_iff.1 HX3.out).1).trans HX3.out)
      obtain ⟨y0, y1⟩ := two_cells HX4.out
      have HM4 := Lib.hid (HM3.out.keep hb4)
      have m0 := HM4.out.c0
      have m1 := HM4.out.c1
      have m2 := HM4.out.c2
      have HR4 := Lib.hid (bytes_more (bytes_keep hr3 hb4) hb4.size)
      clear hr3 hb4 HF HM3 HB3 HX3 x0 x1
      go_wp2_with fail
      refine (HOOB.out _).mono ?_
      rintro e w5 ⟨rfl, hb5⟩
      have HB5 := Lib.hid (below_on HB4.out hb5 HB4.out.size)
      have HX5 := Lib.hid ((hb5.block w2.heap.size (Array.getElem?_eq_some_iff.1 HX4.out).1).trans HX4.out)
      have HR5 := Lib.hid (bytes_more (bytes_keep HR4.out hb5) hb5.size)
      have ha5 := (Below.refl w5.heap.size w5).alloc (Nat.le_refl _) (.cells #[.int .i64 4, .int .i64 l, .int .i64 s] 44)
      have HR6 := Lib.hid (bytes_more (bytes_keep HR5.out ha5) ha5.size)
      obtain ⟨z0, z1⟩ := two_cells ((ha5.block w2.heap.size (Array.getElem?_eq_some_iff.1 HX5.out).1).trans HX5.out)
      have hlit := hold_lit (w := w5.alloc (.cells #[.int .i64 4, .int .i64 l, .int .i64 s] 44)) (e := 59) (sz := 4) ⟨[4, l, s], As, 16, cd⟩ rfl ⟨by show cd.length ≤ 16; rw [HCD.out]; exact Nat.le_refl _, by show 16 ≤ maxLen; decide⟩ (by show Bytes _ _ As cd.length cd; rw [HCD.out]; exact HR6.out)
      have hlit2 := hlit.rows.le (base' := w.heap.size) (Nat.le_trans HB5.out.size ha5.size)
      have hb6 : Below w.heap.size w ((w5.alloc (.cells #[.int .i64 4, .int .i64 l, .int .i64 s] 44)).alloc (.cells #[.int .i64 4, .int .i64 l, .int .i64 s, .slice As 16 16] 59)) := (HB5.out.alloc HB5.out.size _).alloc (by have := HB5.out.size; simp; omega) _
      have hhold : Hold ((w5.alloc (.cells #[.int .i64 4, .int .i64 l, .int .i64 s] 44)).alloc (.cells #[.int .i64 4, .int .i64 l, .int .i64 s, .slice As 16 16] 59)) w.heap.size 59 4 (.slice (some ⟨w5.heap.size + 1, 0, none⟩) 1 1) [⟨[4, l, s], As, 16, cd⟩] := by
        have h : Hold _ w.heap.size 59 4 _ [⟨[4, l, s], As, 16, cd⟩] := ⟨hlit2, hlit.data⟩
        rw [World.size_alloc] at h
        have e : (Rd.mk [4, l, s] As 16 cd).cells.toArray = #[.int .i64 4, .int .i64 l, .int .i64 s, .slice As 16 16] := by show #[Value.int .i64 4, .int .i64 l, .int .i64 s, .slice As cd.length 16] = _; rw [HCD.out]
        rw [e] at h
        exact h
      have HLAY := Lib.hid (lay_any N [⟨4, l, s, cd⟩] hhold rfl h1N hN4 hb6.size)
      have HB6 := Lib.hid hb6
      clear hb5 ha5 hlit hlit2 hb6 hhold HOOB HM4 HB4 HX4 HR4 HR5 HR6 y0 y1 m0 m1 m2
      go_wp2_with fail
      refine HLAY.out.mono ?_
      intro e w7 hlaid
      have hbt : Built (N : Int) [⟨4, l, s, cd⟩] w w7 e := built_of HFT.out HB6.out (by rw [Int.toNat_natCast]; exact hlaid)
      clear hlaid
      rcases hbt with ⟨h1, a, b, qs, rfl, h3⟩ | ⟨h1, rfl, h3⟩
      · have HEND := Lib.hid (show Built (N : Int) [⟨4, l, s, cd⟩] w w7 (.returned (.tuple #[a, b, .int .i64 0])) from .inl ⟨h1, a, b, qs, rfl, h3⟩)
        clear h1 h3
        go_wp2
        go_ret3
        exact HEND.out
      · have HEND := Lib.hid (show Built (N : Int) [⟨4, l, s, cd⟩] w w7 (.returned (.tuple #[.slice none 0 0, .slice none 0 0, .int .i64 1])) from .inr ⟨h1, rfl, h3⟩)
        clear h1 h3
        go_wp2
        go_ret3
        exact HEND.out
    · rw [decide_eq_false hf] at HF
      have HNO := Lib.hid (show ¬ (fits n [Pc.mk 4 l s cd].length ∧ ∀ p ∈ [Pc.mk 4 l s cd], p.Ok) from fun h => hf h.1)
      clear hf
      go_enter Try.func14, Try.ntmps14
      go_wp2_with fail
      refine (HP.out _).mono ?_
      rintro e w2 ⟨rfl, hb2⟩
      have HB2 := Lib.hid ((below_on HBM.out hb2 HBM.out.size).alloc (Nat.le_trans HBM.out.size hb2.size) (.cells #[.int .i64 n, .func (.func 38) #[] #[]] 53))
      have HX2 := Lib.hid (heap_alloc_new w2 (.cells #[.int .i64 n, .func (.func 38) #[] #[]] 53))
      have HM2 := Lib.hid ((HM.out.keep hb2).old (.cells #[.int .i64 n, .func (.func 38) #[] #[]] 53))
      have m0 := HM2.out.c0
      have m1 := HM2.out.c1
      have m2 := HM2.out.c2
      clear hb2 HP
      go_wp2_with fail
      refine (HSEC.out _).mono ?_
      rintro e w3 ⟨As, rfl, hr3, hb3⟩
      have HB3 := Lib.hid (below_on HB2.out hb3 HB2.out.size)
      have HX3 := Lib.hid ((hb3.block w2.heap.size (by simp)).trans HX2.out)
      obtain ⟨x0, x1⟩ := two_cells HX3.out
      have HM3 := Lib.hid (HM2.out.keep hb3)
      clear hb3 m0 m1 m2 HSEC HM HM2 HB2 HX2
      go_wp2_with fail
      refine (HF.out _).mono ?_
      rintro e w4 ⟨rfl, hb4⟩
      have HB4 := Lib.hid (below_on HB3.out hb4 HB3.out.size)
      have HEND := Lib.hid (show Built n [⟨4, l, s, cd⟩] w w4 (.returned (.tuple #[.slice none 0 0, .slice none 0 0, .int .i64 1])) from .inr ⟨HNO.out, rfl, HB4.out⟩)
      clear hr3 hb4 HF HM3 HB3 HX3 x0 x1
      go_wp2
      go_ret3
      exact HEND.out
  · have HSEC := Lib.hid (fun w => MarkPkg.Sector_bad hok w)
    have hh : heads l r s = [] := if_neg hok
    rw [hh]
    have HNO := Lib.hid (show ¬ (fits n ([] : List Pc).length ∧ ∀ p ∈ ([] : List Pc), p.Ok) from fun h => by have := h.1.1; simp at this)
    clear hh hok
    generalize decide (fits n 1) = ft at HF
    go_enter Try.func14, Try.ntmps14
    go_wp2_with fail
    refine (HP.out _).mono ?_
    rintro e w2 ⟨rfl, hb2⟩
    have HB2 := Lib.hid ((below_on HBM.out hb2 HBM.out.size).alloc (Nat.le_trans HBM.out.size hb2.size) (.cells #[.int .i64 n, .func (.func 38) #[] #[]] 53))
    have HX2 := Lib.hid (heap_alloc_new w2 (.cells #[.int .i64 n, .func (.func 38) #[] #[]] 53))
    have HM2 := Lib.hid ((HM.out.keep hb2).old (.cells #[.int .i64 n, .func (.func 38) #[] #[]] 53))
    have m0 := HM2.out.c0
    have m1 := HM2.out.c1
    have m2 := HM2.out.c2
    clear hb2 HP
    go_wp2_with fail
    refine (HSEC.out _).mono ?_
    rintro e w3 ⟨rfl, hb3⟩
    have HB3 := Lib.hid (below_on HB2.out hb3 HB2.out.size)
    have HX3 := Lib.hid ((hb3.block w2.heap.size (by simp)).trans HX2.out)
    obtain ⟨x0, x1⟩ := two_cells HX3.out
    have HM3 := Lib.hid (HM2.out.keep hb3)
    clear hb3 m0 m1 m2 HSEC HM HM2 HB2 HX2
    go_wp2_with fail
    refine (HF.out _).mono ?_
    rintro e w4 ⟨rfl, hb4⟩
    have HB4 := Lib.hid (below_on HB3.out hb4 HB3.out.size)
    have HEND := Lib.hid (show Built n [] w w4 (.returned (.tuple #[.slice none 0 0, .slice none 0 0, .int .i64 1])) from .inr ⟨HNO.out, rfl, HB4.out⟩)
    clear hb4 HF HM3 HB3 HX3 x0 x1
    cases ft with
    | true =>
      go_wp2
      go_ret3
      exact HEND.out
    | false =>
      go_wp2
      go_ret3
      exact HEND.out

end Go.Proofs.Yteonjdigcecceaa.PagePkg
