/-
  What package victim's Order does, for every slice of lines.
-/
import Derived.Test.YtodaigdlfpinhaaVictimSort
import Derived.Test.YtodaigdlfpinhaaVictimPick
import Derived.Test.YtodaigdlfpinhaaInts
namespace Go.Proofs.Ytodaigdlfpinhaa.VictimPkg
open Go.RowKit Victim Lib
set_option maxRecDepth 4000

theorem infoInt : intInfo Try.prog 3 := by
  have h : (Try.prog.info? 3).map (fun i => (i.zero, i.size, i.bytes)) = some (some (.int .i64 0), 1, 8) := by kernel_rfl
  obtain ⟨i, hi, hzz⟩ := Option.map_eq_some_iff.1 h
  simp only [Prod.mk.injEq] at hzz
  exact ⟨i, hi, hzz.1, hzz.2.1, hzz.2.2⟩

/-- The first t of a list, noughts behind. -/
def upto (zs : List Int) (t j : Nat) : Int := if j < t then zs.getD j 0 else 0

set_option maxHeartbeats 2000000 in
theorem Order_any {w : World} {B : Nat} {A : Option Addr} {n : Nat} {f : Nat → Ln} (h : Lines w B A n f) (hB : B ≤ w.heap.size) (hn : n ≤ 1000) (c : Nat) :
    Calls Try.prog 13 #[.slice A n c] w fun e w' => ∃ Q m, e = .returned (.slice (some ⟨Q, 0, none⟩) m m) ∧ m = (rks f n).length ∧ w.heap.size ≤ Q ∧ Ints w' Q m (fun j => (idx f n).getD j 0) ∧ Below w.heap.size w w' := by
  have HR := Lib.hid (ranks_any h hB hn c)
  have hl := rks_len f n
  have HI : Hid (∀ s, Srt (rks f n) s → idx f n = s.map (·.2.2)) := Lib.hid fun s hs => by rw [idx, ord_is hs]
  generalize idx f n = zs at *
  generalize rks f n = d at *
  obtain ⟨m, hm⟩ : ∃ m, m = d.length := ⟨_, rfl⟩
  rw [← hm] at hl
  have HM := Lib.hid hm
  clear h hB hm
  go_enter Try.func13, Try.ntmps13
  go_wp2_with fail
  refine HR.out.mono ?_
  rintro e w2 ⟨v, rfl, hrow, hb⟩
  have HSF := Lib.hid (SortFunc_any hrow (by rw [← HM.out]; omega))
  have HROW := Lib.hid hrow
  have HB2 := Lib.hid hb
  obtain ⟨A1, c1, hv, _, _, hv5⟩ := hrow.form
  rw [rrows_len, ← HM.out] at hv hv5
  subst hv
  clear hrow hb HR
  go_wp2_with fail
  refine HSF.out.mono ?_
  rintro e w3 ⟨rfl, ⟨s, hs, hrd⟩, hg⟩
  have HS := Lib.hid (HI.out s hs)
  have hsl : s.length = m := by rw [HM.out]; exact hs.perm.length_eq
  have HB3 := Lib.hid (HB2.out.grown hg HB2.out.size (fun k e => HROW.out.block k e))
  have hrd' : ∀ g, A1 = some ⟨g, 0, none⟩ → 0 < m → Rd w3 g s := fun g e h0 => hrd g m c1 (by rw [e]) (by rw [← HM.out]; exact h0)
  have hmk := run_make_ints (P := Try.prog) w3 28 3 Try.underlying28 infoInt .i64 .i64 m (by omega)
  have HIN := Lib.hid (ints_made w3 3 m)
  have HB4 := Lib.hid (HB3.out.alloc HB3.out.size (.cells (List.replicate m (Value.int .i64 0)).toArray 3))
  have HRD : Hid (∀ g, A1 = some ⟨g, 0, none⟩ → 0 < m → Rd (w3.alloc (.cells (List.replicate m (Value.int .i64 0)).toArray 3)) g s) := Lib.hid fun g e h0 => (hrd' g e h0).keep (by simp) (Below.heap_alloc _ _ _ (hrd' g e h0).lt)
  have HQG : Hid (∀ g, A1 = some ⟨g, 0, none⟩ → 0 < m → g < w3.heap.size) := Lib.hid fun g e h0 => (hrd' g e h0).lt
  have HQ := Lib.hid HB3.out.size
  generalize hX : w3.alloc (.cells (List.replicate m (Value.int .i64 0)).toArray 3) = X at *
  generalize w3.heap.size = Q at *
  clear hs hrd hrd' hg HSF HROW HB2 hX HB3
  go_wp2_with fail
  go_loopw [16] (fun i wr => ∃ t : Nat, i = .int .i64 (t : Int) ∧ t ≤ m ∧ Ints wr Q m (upto zs t) ∧ Hid (∀ g, A1 = some ⟨g, 0, none⟩ → 0 < m → Rd wr g s) ∧ Below w.heap.size w wr) (fun i _ => m - (intOf i).toNat)
  case atStart => exact ⟨0, rfl, by omega, ints_eq HIN.out (fun j _ => by simp [upto]), HRD, HB4.out⟩
  case round =>
    clear HIN HRD HB4 hmk
    obtain ⟨t, rfl, ht, hin, hrd, hbw⟩ := hrel
    by_cases htm : t < m
    · have htm' : (t : Int) < m := by omega
      obtain ⟨g, rfl⟩ := hv5 (by omega)
      have hR := hrd.out g rfl (by omega)
      have hgQ := HQG.out g rfl (by omega)
      obtain ⟨x, hx⟩ : ∃ x, s[t]? = some x := ⟨_, List.getElem?_eq_getElem (by rw [hsl]; exact htm)⟩
      obtain ⟨c0, c1', c2⟩ := hR.at_ t x hx
      have hzx : zs.getD t 0 = x.2.2 := by rw [HS.out]; simp [hx]
      have hal : Below wr.heap.size wr (wr.alloc (boxR x)) := (Below.refl _ _).alloc (Nat.le_refl _) _
      have HBX := Lib.hid (hbw.alloc hbw.size (boxR x))
      have HBOX : Hid ((wr.alloc (boxR x)).heap[wr.heap.size]? = some (boxR x)) := Lib.hid (heap_alloc_new wr _)
      have HIX := Lib.hid (ints_keep hin hal)
      have HRX := Lib.hid (hR.keep hal.size (hal.block g hR.lt))
      have HI2 := Lib.hid (fun w => index_any x w)
      have HZX := Lib.hid hzx
      clear hin hrd hbw hR hx hzx hal
      have HIN3 : Hid (∀ W, Below (wr.alloc (boxR x)).heap.size (wr.alloc (boxR x)) W → Ints W Q m (upto zs t) ∧ Rd W g s ∧ Below w.heap.size w W) := Lib.hid fun W hW => ⟨ints_keep HIX.out hW, HRX.out.keep hW.size (hW.block g HRX.out.lt), below_then HBX.out hW⟩
      obtain ⟨⟨b0, b1, b2⟩, _, _, _⟩ := box_cells HBOX.out
      clear HIX HRX HBX HBOX
      obtain ⟨x0, x1, x2⟩ := x
      unfold boxR rankC at HIN3 b0 b1 b2
      unfold rankV rankC at HI2
      dsimp only at c0 c1' c2 HIN3 b0 b1 b2 HI2 HZX
      go_wp2_with fail
      refine (HI2.out _).mono ?_
      rintro e w4 ⟨rfl, hb4⟩
      obtain ⟨hin, hR, hbw⟩ := HIN3.out _ hb4
      obtain ⟨q0, q1⟩ := hin t htm
      have HIS := Lib.hid (ints_set hin htm x2)
      have HRS : Hid (Rd (w4.setCell ⟨Q, t, none⟩ (.int .i64 x2)) g s) := Lib.hid (hR.keep (by simp) (Below.heap_setCell _ _ _ _ (show g ≠ Q by omega)))
      have HBS := Lib.hid (hbw.setCell (p := ⟨Q, t, none⟩) HQ.out (.int .i64 x2))
      clear hin hR hbw hb4 b0 b1 b2 c0 c1' c2 HIN3
      go_wp2
      go_roundw
      case measure => simp [intOf]; omega
      case rel =>
        refine ⟨t + 1, by go_num, by omega, ints_eq HIS.out (fun j hj => ?_), Lib.hid (fun g' e _ => ?_), HBS.out⟩
        · show (if j = t then x2 else upto zs t j) = upto zs (t + 1) j
          unfold upto
          by_cases hj : j = t
          · subst hj
            rw [if_pos rfl, if_pos (by omega), HZX.out]
          · rw [if_neg hj]
            by_cases h2 : j < t
            · rw [if_pos h2, if_pos (by omega)]
            · rw [if_neg h2, if_neg (by omega)]
        · injection e with e
          injection e with e
          subst e
          exact HRS.out
    · obtain rfl : m = t := by omega
      have HE : Hid (Ints wr Q m (fun j => zs.getD j 0)) := Lib.hid (ints_eq hin fun j hj => by simp [upto, hj])
      have HBE := Lib.hid hbw
      clear hin hrd hbw
      go_wp2
      go_ret
      exact ⟨Q, m, rfl, HM.out, HQ.out, HE.out, HBE.out⟩

end Go.Proofs.Ytodaigdlfpinhaa.VictimPkg
