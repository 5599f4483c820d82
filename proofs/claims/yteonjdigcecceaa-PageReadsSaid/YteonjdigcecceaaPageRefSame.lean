/-
  The document's own answer for layer 15: SameBytes, SameFound: two lists that are the same are found so.
-/
import Derived.Test.YteonjdigcecceaaPageKit
import Derived.Test.YteonjdigcecceaaPageRefMem
import Derived.BigQuiet
namespace Go.Proofs.Yteonjdigcecceaa.PageRef
open Go.RowKit Go.ChangeShapes Go.WideShapes Page PagePkg PageLaw
set_option maxRecDepth 4000

theorem sameBytes_any (A A2 : Option Addr) (n c c2 : Nat) (ls : List (List UInt8)) (w : World) (h1 : Bys w w.heap.size A n ls) (h2 : Bys w w.heap.size A2 n ls) (hn : n ≤ 1000000) :
    Calls Try.prog 13 #[.slice A n c, .slice A2 n c2] w fun e w' => e = .returned (.bool true) ∧ Below w.heap.size w w' := by
  have H1 := Lib.hid h1
  have H2 := Lib.hid h2
  clear h1 h2
  go_enter Try.func13, Try.ntmps13
  go_wp2
  go_loopw [5] (fun i wr => ∃ j : Nat, j ≤ n ∧ i = .int .i64 (j : Int) ∧ Below w.heap.size w wr) (fun i _ => n - (intOf i).toNat)
  case atStart => exact ⟨0, by omega, rfl, Below.refl _ _⟩
  case round =>
    obtain ⟨j, hj, rfl, hbw⟩ := hrel
    have HBW := Lib.hid hbw
    clear hbw
    by_cases hjn : j < n
    · have hjn2 : (j : Int) < (n : Int) := by omega
      have hj0 : (0 : Int) ≤ (j : Int) := by omega
      obtain ⟨xs, hx⟩ : ∃ xs, ls[j]? = some xs := ⟨_, List.getElem?_eq_getElem (by rw [H1.out.len]; exact hjn)⟩
      obtain ⟨b1, o1, A3, c3, e1, _, k1, _, _, r1⟩ := (H1.out.below HBW.out).at_ j xs hx
      obtain ⟨b2, o2, A4, c4, e2, _, k2, _, _, r2⟩ := (H2.out.below HBW.out).at_ j xs hx
      subst e1 e2
      have hs1 := run_strs (P := Try.prog) wr 40 9 5 Try.underlying40 Try.underlying5 Try.underlying9 (c := c3) r1
      have hs2 := run_strs (P := Try.prog) wr 40 9 5 Try.underlying40 Try.underlying5 Try.underlying9 (c := c4) r2
      have hq := str_eq (rfl : xs = xs)
      clear r1 r2 hx
      generalize xs.length = nx at *
      generalize str xs = sx at *
      go_wp2
      go_quiet (fail)
      go_wp2
      go_roundw
      case rel => exact ⟨j + 1, by omega, by go_num, below_draws HBW.out _⟩
      case measure => simp [intOf]; omega
    · go_wp2
      go_ret
      exact ⟨rfl, HBW.out⟩

theorem fnd_row {rs : List Rd} {fs : List Fnd} (h : rs.map Rd.key = fs.map Fnd.key) {j : Nat} {f : Fnd} (hf : fs[j]? = some f) : ∃ r, rs[j]? = some r ∧ r.z = [(f.a : Int), f.k, f.l, f.s] ∧ r.d = f.d := by
  have h1 : (rs.map Rd.key)[j]? = some f.key := by rw [h, List.getElem?_map, hf]; rfl
  rw [List.getElem?_map, Option.map_eq_some_iff] at h1
  obtain ⟨r, hr, e⟩ := h1
  injection e with e1 e2
  exact ⟨r, hr, e1, e2⟩

theorem sameFound_any {v v2 : Value} {rs rs2 : List Rd} {base base2 : Nat} {w : World} (fs : List Fnd) (h1 : Hold w base 46 5 v rs) (h2 : Hold w base2 46 5 v2 rs2) (hk1 : rs.map Rd.key = fs.map Fnd.key) (hk2 : rs2.map Rd.key = fs.map Fnd.key) (hn : fs.length ≤ 1000000) :
    Calls Try.prog 17 #[v, v2] w fun e w' => e = .returned (.bool true) ∧ Below w.heap.size w w' := by
  obtain ⟨n, hn'⟩ : ∃ n, n = fs.length := ⟨_, rfl⟩
  have hl1 : rs.length = n := (fkey_len hk1).trans hn'.symm
  have hl2 : rs2.length = n := (fkey_len hk2).trans hn'.symm
  have hnn : n ≤ 1000000 := by omega
  obtain ⟨A1, c1, e1, _, _, f1⟩ := h1.form
  obtain ⟨A2, c2, e2, _, _, f2⟩ := h2.form
  rw [hl1] at e1 f1
  rw [hl2] at e2 f2
  subst e1 e2
  have H1 := Lib.hid h1
  have H2 := Lib.hid h2
  have HK1 := Lib.hid hk1
  have HK2 := Lib.hid hk2
  have HN := Lib.hid hn'
  have HF1 := Lib.hid f1
  have HF2 := Lib.hid f2
  clear h1 h2 hk1 hk2 hl1 hl2 f1 f2 hn'
  go_enter Try.func17, Try.ntmps17
  go_wp2
  go_loopw [5] (fun i wr => ∃ j : Nat, j ≤ n ∧ i = .int .i64 (j : Int) ∧ Below w.heap.size w wr) (fun i _ => n - (intOf i).toNat)
  case atStart => exact ⟨0, by omega, rfl, Below.refl _ _⟩
  case round =>
    obtain ⟨j, hj, rfl, hbw⟩ := hrel
    have HBW := Lib.hid hbw
    clear hbw
    by_cases hjn : j < n
    · have hjn2 : (j : Int) < (n : Int) := by omega
      have hj0 : (0 : Int) ≤ (j : Int) := by omega
      obtain ⟨f, hf⟩ : ∃ f, fs[j]? = some f := ⟨_, List.getElem?_eq_getElem (by rw [← HN.out]; exact hjn)⟩
      obtain ⟨r, hr, hz, hd⟩ := fnd_row HK1.out hf
      obtain ⟨r', hr', hz', hd'⟩ := fnd_row HK2.out hf
      obtain ⟨g1, e1, _, _⟩ := HF1.out (by omega)
      obtain ⟨g2, e2, _, _⟩ := HF2.out (by omega)
      subst e1 e2
      obtain ⟨z, Ar, cr, dr⟩ := r
      obtain ⟨z', Ar', cr', dr'⟩ := r'
      obtain ⟨fa, fk, fl, fS, fd⟩ := f
      dsimp only at hz hz' hd hd'
      subst hz hz'
      have hdd : dr = dr' := hd.trans hd'.symm
      subst hdd
      clear hd hd'
      have k0 := (H1.out.below HBW.out).cell hr (j := 0) rfl
      have k1 := (H1.out.below HBW.out).cell hr (j := 1) rfl
      have k2 := (H1.out.below HBW.out).cell hr (j := 2) rfl
      have k3 := (H1.out.below HBW.out).cell hr (j := 3) rfl
      have k4 := (H1.out.below HBW.out).cell hr (j := 4) rfl
      have q0 := (H2.out.below HBW.out).cell hr' (j := 0) rfl
      have q1 := (H2.out.below HBW.out).cell hr' (j := 1) rfl
      have q2 := (H2.out.below HBW.out).cell hr' (j := 2) rfl
      have q3 := (H2.out.below HBW.out).cell hr' (j := 3) rfl
      have q4 := (H2.out.below HBW.out).cell hr' (j := 4) rfl
      rw [Nat.add_zero] at k0 q0
      dsimp only at k4 q4
      have hs1 := run_strs (P := Try.prog) wr 40 9 5 Try.underlying40 Try.underlying5 Try.underlying9 (c := cr) ((H1.out.below HBW.out).bytes (List.mem_of_getElem? hr))
      have hs2 := run_strs (P := Try.prog) wr 40 9 5 Try.underlying40 Try.underlying5 Try.underlying9 (c := cr') ((H2.out.below HBW.out).bytes (List.mem_of_getElem? hr'))
      have hq := str_eq (rfl : dr = dr)
      clear hr hr' hf
      generalize dr.length = nx at *
      generalize str dr = sx at *
      generalize (fa : Int) = fai at *
      go_wp2
      go_quiet (fail)
      go_wp2
      go_roundw
      case rel => exact ⟨j + 1, by omega, by go_num, below_draws HBW.out _⟩
      case measure => simp [intOf]; omega
    · go_wp2
      go_ret
      exact ⟨rfl, HBW.out⟩

end Go.Proofs.Yteonjdigcecceaa.PageRef
