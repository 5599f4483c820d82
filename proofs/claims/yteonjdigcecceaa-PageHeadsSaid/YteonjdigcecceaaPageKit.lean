/-
  What every law of layer 15 needs: the small page that each of them makes first, and the looks at how great its arguments are.
-/
import Derived.Test.YteonjdigcecceaaPageHead
import Derived.Test.YteonjdigcecceaaPageRead
import Derived.Test.YteonjdigcecceaaLawKit
namespace Go.Proofs.Yteonjdigcecceaa.PageLaw
open Go.RowKit Go.ChangeShapes Go.WideShapes Page PagePkg
set_option maxRecDepth 4000

def Slim (ss : List Sl) : Prop := ss.length ≤ 100 ∧ ∀ x ∈ ss, x.d.length ≤ 1000
instance (ss : List Sl) : Decidable (Slim ss) := by unfold Slim; infer_instance
def Short (ls : List (List UInt8)) : Prop := ls.length ≤ 100 ∧ ∀ x ∈ ls, x.length ≤ 1000
instance (ls : List (List UInt8)) : Decidable (Short ls) := by unfold Short; infer_instance

theorem slim_any (A : Option Addr) (n c : Nat) (ss : List Sl) (w : World) (h : Slots w w.heap.size A n ss) (hc : n ≤ c ∧ c ≤ maxLen) :
    Calls Try.prog 10 #[.slice A n c] w fun e w' => e = .returned (.bool (decide (Slim ss))) ∧ w' = w := by
  have hn : n ≤ 9223372036854775807 := Nat.le_trans hc.1 (Nat.le_trans hc.2 (by decide))
  have HS := Lib.hid h
  clear h hc
  go_enter Try.func10, Try.ntmps10
  go_wp2
  go_loopw [3] (fun i wr => ∃ j : Nat, i = .int .i64 (j : Int) ∧ j ≤ n ∧ (∀ (q : Nat) x, q < j → ss[q]? = some x → x.d.length ≤ 1000) ∧ wr = w) (fun i _ => n - (intOf i).toNat)
  case atStart => exact ⟨0, rfl, by omega, fun q x h => by omega, rfl⟩
  case round =>
    obtain ⟨j, rfl, hj, hall, rfl⟩ := hrel
    have HALL := Lib.hid hall
    clear hall
    by_cases hlt : j < n
    · have hlt2 : (j : Int) < (n : Int) := by omega
      have hj0 : (0 : Int) ≤ (j : Int) := by omega
      obtain ⟨x, hx⟩ : ∃ x, ss[j]? = some x := ⟨_, List.getElem?_eq_getElem (by rw [HS.out.len]; exact hlt)⟩
      obtain ⟨b, off, Ap, cp, hA, hat⟩ := HS.out.at_ j x hx
      subst hA
      have k3 := hat.c3
      have HX := Lib.hid hx
      clear hat hx
      by_cases hd : x.d.length ≤ 1000
      · have hd2 : ¬ (1000 : Int) < (x.d.length : Int) := by omega
        have HD := Lib.hid hd
        clear hd
        go_wp2
        go_roundw
        case measure => simp [intOf]; omega
        case rel =>
          refine ⟨j + 1, by go_num, by omega, fun q y hq hy => ?_, trivial⟩
          rcases Nat.lt_or_ge q j with h | h
          · exact HALL.out q y h hy
          · obtain rfl : q = j := by omega
            rw [HX.out] at hy
            injection hy with hy
            rw [← hy]
            exact HD.out
      · have hd2 : (1000 : Int) < (x.d.length : Int) := by omega
        have HNO : Hid (decide (Slim ss) = false) := Lib.hid (by
          rw [decide_eq_false_iff_not]
          exact fun h => hd (h.2 x (List.mem_of_getElem? HX.out)))
        clear hd
        go_wp2
        go_ret
        exact ⟨by rw [HNO.out]; rfl, rfl⟩
    · obtain rfl : j = n := by omega
      have HD : Hid (decide (Slim ss) = decide ((j : Int) ≤ 100)) := Lib.hid (by
        rw [decide_eq_decide]
        unfold Slim
        rw [HS.out.len]
        constructor
        · intro h
          omega
        · intro h
          refine ⟨by omega, fun x hx => ?_⟩
          obtain ⟨q, hq⟩ := List.getElem?_of_mem hx
          exact HALL.out q x (by have := (List.getElem?_eq_some_iff.1 hq).1; rw [HS.out.len] at this; exact this) hq)
      go_wp2
      go_ret
      exact ⟨by rw [HD.out]; rfl, rfl⟩

theorem short_any (A : Option Addr) (n c : Nat) (ls : List (List UInt8)) (w : World) (h : Bys w w.heap.size A n ls) (hc : n ≤ c ∧ c ≤ maxLen) :
    Calls Try.prog 16 #[.slice A n c] w fun e w' => e = .returned (.bool (decide (Short ls))) ∧ w' = w := by
  have hn : n ≤ 9223372036854775807 := Nat.le_trans hc.1 (Nat.le_trans hc.2 (by decide))
  have HS := Lib.hid h
  clear h hc
  go_enter Try.func16, Try.ntmps16
  go_wp2
  go_loopw [3] (fun i wr => ∃ j : Nat, i = .int .i64 (j : Int) ∧ j ≤ n ∧ (∀ (q : Nat) x, q < j → ls[q]? = some x → x.length ≤ 1000) ∧ wr = w) (fun i _ => n - (intOf i).toNat)
  case atStart => exact ⟨0, rfl, by omega, fun q x h => by omega, rfl⟩
  case round =>
    obtain ⟨j, rfl, hj, hall, rfl⟩ := hrel
    have HALL := Lib.hid hall
    clear hall
    by_cases hlt : j < n
    · have hlt2 : (j : Int) < (n : Int) := by omega
      have hj0 : (0 : Int) ≤ (j : Int) := by omega
      obtain ⟨x, hx⟩ : ∃ x, ls[j]? = some x := ⟨_, List.getElem?_eq_getElem (by rw [HS.out.len]; exact hlt)⟩
      obtain ⟨b, off, Ap, cp, hA, _, k3, _, _, _⟩ := HS.out.at_ j x hx
      subst hA
      have HX := Lib.hid hx
      clear hx
      by_cases hd : x.length ≤ 1000
      · have hd2 : ¬ (1000 : Int) < (x.length : Int) := by omega
        have HD := Lib.hid hd
        clear hd
        go_wp2
        go_roundw
        case measure => simp [intOf]; omega
        case rel =>
          refine ⟨j + 1, by go_num, by omega, fun q y hq hy => ?_, trivial⟩
          rcases Nat.lt_or_ge q j with h | h
          · exact HALL.out q y h hy
          · obtain rfl : q = j := by omega
            rw [HX.out] at hy
            injection hy with hy
            rw [← hy]
            exact HD.out
      · have hd2 : (1000 : Int) < (x.length : Int) := by omega
        have HNO : Hid (decide (Short ls) = false) := Lib.hid (by
          rw [decide_eq_false_iff_not]
          exact fun h => hd (h.2 x (List.mem_of_getElem? HX.out)))
        clear hd
        go_wp2
        go_ret
        exact ⟨by rw [HNO.out]; rfl, rfl⟩
    · obtain rfl : j = n := by omega
      have HD : Hid (decide (Short ls) = decide ((j : Int) ≤ 100)) := Lib.hid (by
        rw [decide_eq_decide]
        unfold Short
        rw [HS.out.len]
        constructor
        · intro h
          omega
        · intro h
          refine ⟨by omega, fun x hx => ?_⟩
          obtain ⟨q, hq⟩ := List.getElem?_of_mem hx
          exact HALL.out q x (by have := (List.getElem?_eq_some_iff.1 hq).1; rw [HS.out.len] at this; exact this) hq)
      go_wp2
      go_ret
      exact ⟨by rw [HD.out]; rfl, rfl⟩

theorem built_yes {N : Nat} {ps : List Pc} {w w' : World} {e : Ending} (h : Built (N : Int) ps w w' e) (hf : fits (N : Int) ps.length) (hok : ∀ p ∈ ps, p.Ok) :
    ∃ A c A' c' qs, e = .returned (.tuple #[.slice A N c, .slice A' N c', .int .i64 0]) ∧ Bys w' w'.heap.size A N ((fill N ps).map Pc.d) ∧ Bys w' w'.heap.size A' N ((fill N ps).map Pc.code) ∧ Pg w' w.heap.size (.slice A N c) (.slice A' N c') qs ∧ qs.map Rw.two = (fill N ps).map Pc.two ∧ N ≤ c ∧ N ≤ c' ∧ c ≤ maxLen ∧ c' ≤ maxLen ∧ Below w.heap.size w w' := by
  rcases h with ⟨_, a, b, qs, h2, h3, h4, h5⟩ | ⟨h1, _⟩
  · rw [Int.toNat_natCast] at h4
    have hl : qs.length = N := by
      have := congrArg List.length h4
      rw [List.length_map, List.length_map, fill_len (by unfold fits at hf; omega)] at this
      exact this
    obtain ⟨A, c, A', c', e1, e2, e3, e4, e5, e6, e7, e8⟩ := h3.reads
    rw [hl] at e1 e2 e3 e4 e7 e8
    have hd : qs.map Rw.d = (fill N ps).map Pc.d := by
      have := congrArg (List.map Prod.fst) h4
      simpa [Rw.two, Pc.two, Function.comp_def] using this
    have hc : qs.map Rw.c = (fill N ps).map Pc.code := by
      have := congrArg (List.map Prod.snd) h4
      simpa [Rw.two, Pc.two, Function.comp_def] using this
    rw [hd] at e7
    rw [hc] at e8
    subst e1 e2
    exact ⟨A, c, A', c', qs, h2, e7, e8, h3, h4, e3, e4, e5, e6, h5⟩
  · exact absurd ⟨hf, hok⟩ h1

theorem built_no {n : Int} {ps : List Pc} {w w' : World} {e : Ending} (h : Built n ps w w' e) (hn : ¬ (fits n ps.length ∧ ∀ p ∈ ps, p.Ok)) : e = .returned (.tuple #[.slice none 0 0, .slice none 0 0, .int .i64 1]) ∧ Below w.heap.size w w' := by
  rcases h with ⟨h1, _⟩ | ⟨_, h2, h3⟩
  · exact absurd h1 hn
  · exact ⟨h2, h3⟩

def one : List Sl := [⟨2, 5, 9, [], 0⟩]

theorem one_ok : ∀ p ∈ one.map Sl.pc, p.Ok := by
  intro p hp
  simp only [one, List.map_cons, List.map_nil, List.mem_singleton] at hp
  subst hp
  refine ⟨?_, rfl⟩
  show Oob.Ok 2 5 9
  unfold Oob.Ok
  omega

theorem one_slots (w : World) : Slots (w.alloc (.cells #[.int .i64 2, .int .i64 5, .int .i64 9, .slice none 0 0, .int .i64 0] 42)) (w.alloc (.cells #[.int .i64 2, .int .i64 5, .int .i64 9, .slice none 0 0, .int .i64 0] 42)).heap.size (some ⟨w.heap.size, 0, none⟩) 1 one := by
  refine ⟨rfl, fun i x hi => ?_⟩
  rcases i with _ | i
  · simp only [one, List.getElem?_cons_zero, Option.some.injEq] at hi
    subst hi
    refine ⟨w.heap.size, 0, none, 0, rfl, ?_⟩
    constructor
    case lt => simp
    case fit => exact Nat.le_refl _
    case top => exact Nat.zero_le _
    case data => exact ⟨rfl, fun i hi => absurd hi (by simp)⟩
    all_goals simp [World.cell?_alloc_at]
  · simp [one] at hi

theorem awake_any (w : World) :
    Calls Try.prog 9 #[] w fun e w' => e = .returned (.bool true) ∧ Below w.heap.size w w' := by
  have HB := Lib.hid ((Below.refl w.heap.size w).alloc (Nat.le_refl _) (.cells #[.int .i64 2, .int .i64 5, .int .i64 9, .slice none 0 0, .int .i64 0] 42))
  have HBD := Lib.hid (Build_any 2 (some ⟨w.heap.size, 0, none⟩) 1 1 one _ (one_slots w))
  have HRD := Lib.hid (fun A A2 n c m c2 D O w h1 h2 hn => Read_any A A2 n c m c2 D O w h1 h2 hn)
  go_enter Try.func9, Try.ntmps9
  go_wp2_with fail
  refine HBD.out.mono ?_
  intro e w2 hbt
  obtain ⟨A, c, A', c', _, rfl, h1, h2, _, _, _, _, _, _, hb⟩ := built_yes (N := 2) hbt ⟨by decide, by decide, by decide⟩ one_ok
  have HB2 := Lib.hid (below_on HB.out hb HB.out.size)
  have HR := Lib.hid (HRD.out A A' 2 c 2 c' _ _ w2 h1 h2 (by omega))
  rw [all_built one_ok (by decide)] at HR
  clear hbt h1 h2 hb HBD HRD
  go_wp2_with fail
  refine HR.out.mono ?_
  rintro e w3 ⟨v, rs, rfl, hh, hkey, hb⟩
  have HB3 := Lib.hid (below_on HB2.out hb HB2.out.size)
  have hl : rs.length = 1 := by have := congrArg List.length hkey; simpa [one] using this
  obtain ⟨A6, c6, hv, _, _, hA⟩ := hh.form
  rw [hl] at hv hA
  obtain ⟨g, rfl, _, _⟩ := hA (by omega)
  subst hv
  match rs, hl with
  | [r], _ =>
    have hz : r.key = ([0, 2, 5, 9], zeros) := by
      have h := congrArg List.head? hkey
      simpa [Fnd.key, fnd, one, sect] using h
    obtain ⟨z, Ar, cr, d⟩ := r
    injection hz with hz hd
    dsimp only at hz hd
    subst hz
    have k1 := hh.cell (i := 0) rfl (j := 1) rfl
    have k2 := hh.cell (i := 0) rfl (j := 2) rfl
    have k3 := hh.cell (i := 0) rfl (j := 3) rfl
    simp only [Nat.zero_mul, Nat.zero_add] at k1 k2 k3
    clear hh hkey hb hA HR
    go_wp2
    go_ret
    exact ⟨rfl, HB3.out⟩

/-- The row of a slot among what was told. -/
theorem row_at {rs : List Rd} {ss : List Sl} {m : Nat} (h : rs.map Rd.key = ((List.range m).map (fnd ss)).map Fnd.key) {j : Nat} {x : Sl} (hx : ss[j]? = some x) (hj : j < m) : ∃ r, rs[j]? = some r ∧ r.z = [(j : Int), x.k, x.l, x.s] ∧ r.d = sect x := by
  have h1 : (rs.map Rd.key)[j]? = some ([(j : Int), x.k, x.l, x.s], sect x) := by
    rw [h, List.getElem?_map, List.getElem?_map, List.getElem?_range hj]
    simp [fnd_at hx, Fnd.key]
  rw [List.getElem?_map, Option.map_eq_some_iff] at h1
  obtain ⟨r, hr, e⟩ := h1
  injection e with e1 e2
  exact ⟨r, hr, e1, e2⟩

theorem hold_on {w w' : World} {a : Addr} {v : Value} (hb : Below w.heap.size w w') (h : w.cell? a = some v) : w'.cell? a = some v := (hb.cell (p := a) (cell_lt h)).trans h

/-- What stands behind the first m, as a slice expression has it. -/
theorem bys_if {w : World} {b off n c m : Nat} {ls : List (List UInt8)} (h : Bys w w.heap.size (some ⟨b, off, none⟩) n ls) (hm : m ≤ n) (hc : n ≤ c) :
    Bys w.drew w.drew.heap.size (if c = m then some ⟨b, off, none⟩ else some ⟨b, off + m, none⟩) (n - m) (ls.drop m) := by
  have h2 := h.below (Below.refl _ _).drew
  split
  · have hl := h.len
    have e : ls.drop m = [] := List.drop_eq_nil_of_le (by omega)
    rw [e]
    exact ⟨by show 0 = _; omega, fun i xs hi => by simp at hi⟩
  · exact h2.drop rfl m

theorem all_pads {ss : List Sl} {N m : Nat} (hm : ss.length ≤ m) : all (((fill N (ss.map Sl.pc)).map Pc.d).drop m) (((fill N (ss.map Sl.pc)).map Pc.code).drop m) = [] := by
  have h := read_none (((fill N (ss.map Sl.pc)).map Pc.d).drop m) (((fill N (ss.map Sl.pc)).map Pc.code).drop m) 0 (min (((fill N (ss.map Sl.pc)).map Pc.d).drop m).length (((fill N (ss.map Sl.pc)).map Pc.code).drop m).length) (fun i _ hi => by
    simp only [List.length_drop, List.length_map, Nat.min_self, Nat.zero_add] at hi
    have hN : m + i < N := by
      unfold fill at hi
      simp at hi
      omega
    have hf := fill_pad (ss := ss) (N := N) (i := m + i) (by omega) hN
    have h1 : (((fill N (ss.map Sl.pc)).map Pc.d).drop m).getD i [] = zeros := by
      rw [List.getD_eq_getElem?_getD, List.getElem?_drop, List.getElem?_map, hf]
      rfl
    have h2 : (((fill N (ss.map Sl.pc)).map Pc.code).drop m).getD i [] = pad.code := by
      rw [List.getD_eq_getElem?_getD, List.getElem?_drop, List.getElem?_map, hf]
      rfl
    rw [h1, h2]
    exact tell_pc pad_ok i)
  rw [Nat.zero_add] at h
  exact h

end Go.Proofs.Yteonjdigcecceaa.PageLaw
