/-
  What package page's Build does, whatever it is given.
-/
import Derived.Test.YteonjdigcecceaaPageLay
import Derived.Deep.RegionHeld3
import Derived.Deep.DeepCutAuto
namespace Go.Proofs.Yteonjdigcecceaa.PagePkg
open Go.RowKit Go.ChangeShapes Go.WideShapes Page
set_option maxRecDepth 4000

/-- What Build hands back. -/
def Built (n : Int) (ps : List Pc) (w w' : World) (e : Ending) : Prop :=
  ((fits n ps.length ∧ ∀ p ∈ ps, p.Ok) ∧ ∃ a b qs, e = .returned (.tuple #[a, b, .int .i64 0]) ∧ Pg w' w.heap.size a b qs ∧ qs.map Rw.two = (fill n.toNat ps).map Pc.two ∧ Below w.heap.size w w') ∨
  (¬ (fits n ps.length ∧ ∀ p ∈ ps, p.Ok) ∧ e = .returned (.tuple #[.slice none 0 0, .slice none 0 0, .int .i64 1]) ∧ Below w.heap.size w w')

theorem built_of {n : Int} {ps : List Pc} {w w1 w' : World} {e : Ending} (hf : fits n ps.length) (hb : Below w.heap.size w w1) (h : Laid w.heap.size (fill n.toNat ps) w1 w' e) : Built n ps w w' e := by
  rcases h with ⟨h1, a, b, qs, h2, h3, h4, h5⟩ | ⟨h1, h2, h3⟩
  · exact .inl ⟨⟨hf, fill_ok.1 h1⟩, a, b, qs, h2, h3, h4, hb.trans h5⟩
  · exact .inr ⟨fun h => h1 (fill_ok.2 h.2), h2, hb.trans h3⟩

/-- A slot's block, and its metadata's. -/
def Two (w : World) (b1 b2 : Nat) (k l s f : Int) (Ap : Option Addr) (n cp : Nat) : Prop :=
  w.heap[b1]? = some (.cells #[.int .i64 k, .int .i64 l, .int .i64 s, .slice Ap n cp, .int .i64 f] 42 (0, 0)) ∧ w.heap[b2]? = some (.cells #[.int .i64 k, .int .i64 l, .int .i64 s] 44 (0, 0))

section
variable {w w' : World} {b1 b2 : Nat} {k l s f : Int} {Ap : Option Addr} {n cp : Nat}
theorem Two.cells (h : Two w b1 b2 k l s f Ap n cp) : w.cell? ⟨b2, 0, none⟩ = some (.int .i64 k) ∧ w.cell? ⟨b2, 1, none⟩ = some (.int .i64 l) ∧ w.cell? ⟨b2, 2, none⟩ = some (.int .i64 s) ∧
    w.cell? ⟨b1, 0, none⟩ = some (.int .i64 k) ∧ w.cell? ⟨b1, 1, none⟩ = some (.int .i64 l) ∧ w.cell? ⟨b1, 2, none⟩ = some (.int .i64 s) ∧ w.cell? ⟨b1, 3, none⟩ = some (.slice Ap n cp) ∧ w.cell? ⟨b1, 4, none⟩ = some (.int .i64 f) := by
  obtain ⟨h1, h2⟩ := h
  simp [World.cell?, h1, h2]

theorem Two.lt (h : Two w b1 b2 k l s f Ap n cp) : b1 < w.heap.size ∧ b2 < w.heap.size := ⟨(Array.getElem?_eq_some_iff.1 h.1).1, (Array.getElem?_eq_some_iff.1 h.2).1⟩
theorem Two.keep (h : Two w b1 b2 k l s f Ap n cp) (hk : ∀ b, b = b1 ∨ b = b2 → w'.heap[b]? = w.heap[b]?) : Two w' b1 b2 k l s f Ap n cp := ⟨(hk _ (.inl rfl)).trans h.1, (hk _ (.inr rfl)).trans h.2⟩
theorem Two.below (h : Two w b1 b2 k l s f Ap n cp) (hb : Below w.heap.size w w') : Two w' b1 b2 k l s f Ap n cp := h.keep fun b hb2 => hb.block b (by rcases hb2 with rfl | rfl <;> first | exact h.lt.1 | exact h.lt.2)
end

theorem Build_any (n : Int) (A : Option Addr) (m c : Nat) (ss : List Sl) (w : World) (h : Slots w w.heap.size A m ss) :
    Calls Try.prog 11 #[.int .i64 n, .slice A m c] w fun e w' => Built n (ss.map Sl.pc) w w' e := by
  have HS := Lib.hid h
  have hm := h.len
  have HP := Lib.hid (padded_any n w)
  have hpl : (ss.map Sl.pc).length = m := by rw [List.length_map, hm]
  have HPL := Lib.hid hpl
  have HM := Lib.hid hm
  clear h hm hpl
  by_cases hf : fits n m
  · have HF := Lib.hid (fun w => fits_any n (.func 38) #[] #[] m w)
    rw [decide_eq_true hf] at HF
    obtain ⟨N, rfl⟩ : ∃ N : Nat, n = (N : Int) := ⟨n.toNat, by unfold fits at hf; omega⟩
    have hmN : m ≤ N := by unfold fits at hf; omega
    have hN4 : N ≤ 4 := by unfold fits at hf; omega
    have HFT := Lib.hid hf
    clear hf
    go_enter Try.func11, Try.ntmps11
    go_wp2_with fail
    refine HP.out.mono ?_
    rintro e w2 ⟨rfl, hb2⟩
    have HB2 := Lib.hid (hb2.alloc hb2.size (.cells #[.int .i64 (N : Int), .func (.func 38) #[] #[]] 53))
    have HBX2 := Lib.hid (show Box (w2.alloc (.cells #[.int .i64 (N : Int), .func (.func 38) #[] #[]] 53)) w2.heap.size N from heap_alloc_new w2 _)
    have HSZ := Lib.hid hb2.size
    clear hb2 HP
    go_wp2_with fail
    refine (HF.out _).mono ?_
    rintro e w3 ⟨rfl, hb3⟩
    have HB3 := Lib.hid (below_on HB2.out hb3 HB2.out.size)
    have HBX3 := Lib.hid (show Box w3 w2.heap.size N from (hb3.block _ (Array.getElem?_eq_some_iff.1 HBX2.out).1).trans HBX2.out)
    clear hb3 HBX2 HB2 HF
    have HH0 := Lib.hid (hold_nil w3 w.heap.size 59 4)
    go_wp2
    go_loopw [8, 21] (fun v i wr => ∃ (j : Nat) (rs : List Rd), i = .int .i64 (j : Int) ∧ j ≤ m ∧ Hold wr w.heap.size 59 4 v rs ∧ rs.map Rd.key = ((ss.take j).map Sl.pc).map Pc.key ∧ Box wr w2.heap.size N ∧ Below w.heap.size w wr) (fun _ i _ => m - (intOf i).toNat)
    case atStart => exact ⟨0, [], rfl, by omega, HH0.out, rfl, HBX3.out, HB3.out⟩
    case round =>
      obtain ⟨j, rs, rfl, hj, hh, hkey, hbox, hbw⟩ := hrel
      have hl : rs.length = j := by have := key_len hkey; simp at this; have h2 := HM.out; omega
      obtain ⟨A1, c1, hv, _⟩ := hh.form
      rw [hl] at hv
      subst hv
      have HH := Lib.hid hh
      have HKEY := Lib.hid hkey
      have HBOX := Lib.hid hbox
      have HBW := Lib.hid hbw
      have HL := Lib.hid hl
      clear hh hkey hbw hl
      by_cases hjm : j < m
      · have hjm2 : (j : Int) < (m : Int) := by omega
        have hj0 : (0 : Int) ≤ (j : Int) := by omega
        obtain ⟨x, hx⟩ : ∃ x, ss[j]? = some x := ⟨_, List.getElem?_eq_getElem (by rw [HM.out]; exact hjm)⟩
        obtain ⟨g, off, Ap, cp, hA, hat⟩ := (HS.out.keep HBW.out).at_ j x hx
        subst hA
        have hSec := fun X hX hr => sector_any x Ap cp w.heap.size X hX ⟨hat.fit, hat.top⟩ hr
        have hdat := hat.data
        have k0 := hat.c0
        have k1 := hat.c1
        have k2 := hat.c2
        have k3 := hat.c3
        have k4 := hat.c4
        have ht : ((ss.take (j + 1)).map Sl.pc).map Pc.key = ((ss.take j).map Sl.pc).map Pc.key ++ [([x.k, x.l, x.s], sect x)] := by rw [List.take_add_one, hx]; simp [Sl.pc, Pc.key]
        have HT := Lib.hid ht
        obtain ⟨sx, hsx⟩ : ∃ sx, sx = sect x := ⟨_, rfl⟩
        rw [← hsx] at ht
        simp only [← hsx] at hSec
        replace HT := Lib.hid ht
        obtain ⟨k, l, s, d, f⟩ := x
        dsimp only at k0 k1 k2 k3 k4 hSec hdat HT
        have HSEC := Lib.hid hSec
        have HDAT := Lib.hid hdat
        clear hSec hdat ht hsx hx hbox hat
        go_upto_region 9 with fail
        refine at_wld ?_
        intro Y hY
        have hT : Two Y wr.heap.size (wr.heap.size + 1) k l s f Ap d.length cp := by
          rw [hY]
          refine ⟨(Below.heap_alloc _ _ _ (by simp)).trans (heap_alloc_new wr _), ?_⟩
          have h := heap_alloc_new (wr.alloc (.cells #[.int .i64 k, .int .i64 l, .int .i64 s, .slice Ap d.length cp, .int .i64 f] 42)) (.cells #[.int .i64 k, .int .i64 l, .int .i64 s] 44)
          rwa [World.size_alloc] at h
        have hbY : Below wr.heap.size wr Y := by rw [hY]; exact ((Below.refl _ _).alloc (Nat.le_refl _) _).alloc (by simp) _
        clear hY k0 k1 k2 k3 k4
        have hYs : wr.heap.size < Y.heap.size := hT.lt.1
        have HTW := Lib.hid hT
        have HBY := Lib.hid hbY
        have HHY := Lib.hid (HH.out.below hbY)
        have HXY := Lib.hid (show Box Y w2.heap.size N from (hbY.block _ (Array.getElem?_eq_some_iff.1 HBOX.out).1).trans HBOX.out)
        have hDY : Bytes Y w.heap.size Ap d.length d := bytes_keep HDAT.out (hbY.mono HBW.out.size)
        have hwY : w.heap.size ≤ Y.heap.size := Nat.le_trans HBW.out.size hbY.size
        have HC := Lib.hid (HSEC.out Y.drew hwY hDY)
        have S0 := hT.cells
        clear hT hbY hDY HSEC
        go_region_held3 (fun w' => w'.cell? ⟨wr.heap.size + 1, 0, none⟩ = some (.int .i64 k) ∧ w'.cell? ⟨wr.heap.size + 1, 1, none⟩ = some (.int .i64 l) ∧ w'.cell? ⟨wr.heap.size + 1, 2, none⟩ = some (.int .i64 s) ∧ w'.cell? ⟨wr.heap.size, 0, none⟩ = some (.int .i64 k) ∧ w'.cell? ⟨wr.heap.size, 1, none⟩ = some (.int .i64 l) ∧ w'.cell? ⟨wr.heap.size, 2, none⟩ = some (.int .i64 s) ∧ w'.cell? ⟨wr.heap.size, 3, none⟩ = some (.slice Ap d.length cp) ∧ w'.cell? ⟨wr.heap.size, 4, none⟩ = some (.int .i64 f))
          (first | exact S0 | exact S6 | exact S3 | exact S4)
          (first
            | (go_at_call 23; refine HC.out.mono ?_; rintro e w4 ⟨As, cs, rfl, hcs, hls, hb4⟩
               have HB4 : Hid (Below Y.heap.size Y w4) := Lib.hid ⟨hb4.os, hb4.tape, hb4.output, hb4.size, hb4.block⟩
               have S3 := (HTW.out.below HB4.out).cells
               have S4 := (HTW.out.below (HB4.out.alloc HB4.out.size (.cells #[.int .i64 k, .int .i64 l, .int .i64 s, .slice As sx.length cs] 59))).cells
               obtain ⟨A6, c6, w6, hrun, hh6, hb6, hs6, hk6⟩ := hold_append (P := Try.prog) (ty := 56) w4 (by omega) Try.underlying56 infoP (HHY.out.below HB4.out) ⟨[k, l, s], As, cs, sx⟩ rfl (by rw [HL.out]; omega) (Nat.le_trans hwY HB4.out.size) hcs (hls.keep (fun b hb => ⟨by rcases hb with hb | hb; exact (by have := HB4.out.size; omega); exact hb.2, fun e => by have h1 := HHY.out.rows.block b e; have h2 := HHY.out.rows.lt b e; rcases hb with hb | hb; exact (by omega); exact absurd hb.1 (by show ¬ Y.heap.size ≤ b; omega)⟩) (fun _ _ => rfl))
               rw [HL.out] at hrun hh6
               have S6 := (HTW.out.keep (w' := w6) fun b hb => (hk6 b (by have h1 := HTW.out.lt; have := HB4.out.size; rcases hb with rfl | rfl <;> omega) (by rcases hb with rfl | rfl; exact HHY.out.ne HTW.out.1 (by decide); exact HHY.out.ne HTW.out.2 (by decide))).trans (HB4.out.block b (by rcases hb with rfl | rfl; exact HTW.out.lt.1; exact HTW.out.lt.2))).cells)
            | (refine step_append_run (by rfl) _ _ _ (by rfl) (.slice A1 j c1) (.slice (some ⟨w4.heap.size, 0, none⟩) 1 1) _ (by rfl) (by rfl) (fun _ => hrun) ?_))
        have HEND := Lib.hid (show Hold w6 w.heap.size 59 4 (.slice A6 (j + 1) c6) (rs ++ [⟨[k, l, s], As, cs, sx⟩]) ∧ (rs ++ [Rd.mk [k, l, s] As cs sx]).map Rd.key = ((ss.take (j + 1)).map Sl.pc).map Pc.key ∧ Box w6 w2.heap.size N ∧ Below w.heap.size w w6 by
          refine ⟨hh6, ?_, ?_, ((HBW.out.trans (HBY.out.mono HBW.out.size)).trans (HB4.out.mono hwY)).trans hb6⟩
          · rw [HT.out, List.map_append, HKEY.out]
            rfl
          · have hx4 : Box w4 w2.heap.size N := (HB4.out.block _ (Array.getElem?_eq_some_iff.1 HXY.out).1).trans HXY.out
            exact (hk6 _ (Array.getElem?_eq_some_iff.1 hx4).1 (HHY.out.ne HXY.out (by decide))).trans hx4)
        clear hh6 hb6 hs6 hk6 hrun hb4 hls hcs S0 S3 S4 S6 HC
        go_wp2
        go_roundw
        case measure => simp [intOf]; omega
        case rel => exact ⟨j + 1, _, by go_num, by omega, HEND.out⟩
      · obtain rfl : j = m := by omega
        obtain ⟨b0, b1⟩ := hbox.cells
        have ht : ss.take j = ss := List.take_of_length_le (by rw [HM.out]; exact Nat.le_refl _)
        have hkey := HKEY.out
        rw [ht] at hkey
        have HLAY := Lib.hid (lay_any N (ss.map Sl.pc) HH.out hkey (by rw [HPL.out]; exact hmN) hN4 HBW.out.size)
        clear hbox ht hkey
        go_wp2_with fail
        refine HLAY.out.mono ?_
        intro e w5 hlaid
        have hbt : Built (N : Int) (ss.map Sl.pc) w w5 e := built_of (by rw [HPL.out]; exact HFT.out) HBW.out (by rw [Int.toNat_natCast]; exact hlaid)
        clear hlaid
        rcases hbt with ⟨h1, a, b, qs, rfl, h3⟩ | ⟨h1, rfl, h3⟩
        · have HEND := Lib.hid (show Built (N : Int) (ss.map Sl.pc) w w5 (.returned (.tuple #[a, b, .int .i64 0])) from .inl ⟨h1, a, b, qs, rfl, h3⟩)
          clear h1 h3
          go_wp2
          go_ret3
          exact HEND.out
        · have HEND := Lib.hid (show Built (N : Int) (ss.map Sl.pc) w w5 (.returned (.tuple #[.slice none 0 0, .slice none 0 0, .int .i64 1])) from .inr ⟨h1, rfl, h3⟩)
          clear h1 h3
          go_wp2
          go_ret3
          exact HEND.out
  · have HF := Lib.hid (fun w => fits_any n (.func 38) #[] #[] m w)
    rw [decide_eq_false hf] at HF
    have HNO := Lib.hid (show ¬ (fits n (ss.map Sl.pc).length ∧ ∀ p ∈ ss.map Sl.pc, p.Ok) by rw [HPL.out]; exact fun h => hf h.1)
    clear hf
    go_enter Try.func11, Try.ntmps11
    go_wp2_with fail
    refine HP.out.mono ?_
    rintro e w2 ⟨rfl, hb2⟩
    have HB2 := Lib.hid (hb2.alloc hb2.size (.cells #[.int .i64 n, .func (.func 38) #[] #[]] 53))
    clear hb2 HP
    go_wp2_with fail
    refine (HF.out _).mono ?_
    rintro e w3 ⟨rfl, hb3⟩
    have HEND := Lib.hid (show Built n (ss.map Sl.pc) w w3 (.returned (.tuple #[.slice none 0 0, .slice none 0 0, .int .i64 1])) from .inr ⟨HNO.out, rfl, below_on HB2.out hb3 HB2.out.size⟩)
    clear hb3 HF
    go_wp2
    go_ret3
    exact HEND.out

end Go.Proofs.Yteonjdigcecceaa.PagePkg
