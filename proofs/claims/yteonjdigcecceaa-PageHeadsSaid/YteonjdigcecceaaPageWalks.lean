/-
  What package page's small functions do: zeros, pad, padded, fits, sector; slices.Clone.
-/
import Derived.Test.YteonjdigcecceaaPageMem
import Derived.Test.YteonjdigcecceaaOobUnpack
import Derived.Laws.EntriesVeiled
namespace Go.Proofs.Yteonjdigcecceaa.PagePkg
open Go.RowKit Go.ChangeShapes Go.WideShapes Page
set_option maxRecDepth 4000

theorem info8 : byteInfo Try.prog 5 := ⟨_, rfl, by kernel_rfl, by kernel_rfl, by kernel_rfl⟩
theorem infoS : sliceInfo Try.prog 40 := ⟨_, rfl, by kernel_rfl, by kernel_rfl, by kernel_rfl⟩
theorem infoP : rowInfo Try.prog 59 4 48 := ⟨_, _, rfl, rfl, by kernel_rfl, by kernel_rfl, by kernel_rfl⟩
theorem infoF : rowInfo Try.prog 46 5 56 := ⟨_, _, rfl, rfl, by kernel_rfl, by kernel_rfl, by kernel_rfl⟩

theorem below_on {B : Nat} {a b c : World} (h : Below B a b) (k : Below b.heap.size b c) (hB : B ≤ b.heap.size) : Below B a c := h.trans (k.mono hB)

theorem clone_any (A : Option Addr) (n c B : Nat) (xs : List UInt8) (w : World) (hn : n ≤ 100000000000000) (hr : Bytes w B A n xs) (hB : B ≤ w.heap.size) :
    Calls Try.prog 32 #[.slice A n c] w fun e w' => ∃ v, e = .returned v ∧ Own w' w.heap.size 5 v xs ∧ Below w.heap.size w w' := by
  rcases A with _ | ad
  · have hy : xs = [] := by
      rcases xs with _ | ⟨y, ys⟩
      · rfl
      · obtain ⟨b, off, h, _⟩ := hr.2 0 (by simp)
        cases h
    subst hy
    have hnil : (binOp .eql 40 (.slice none n c) (.slice none 0 0)).run Try.prog w = .ok (.bool true) w := Lib.run_eql_slice_nil w 40 5 none n c 0 0 Try.underlying40
    go_enter Try.func32, Try.ntmps32
    go_wp2
    go_ret
    exact ⟨_, rfl, ⟨rfl, .inl ⟨rfl, rfl⟩⟩, Below.refl _ _⟩
  · have hlen : ([] : List UInt8).length + n ≤ 140737488355328 := by simp; omega
    have HR := Lib.hid (bytes_keep (bytes_more hr hB) ((Below.refl w.heap.size w).alloc (Nat.le_refl _) (.cells #[] 5)))
    clear hr
    have hnil : (binOp .eql 40 (.slice (some ad) n c) (.slice none 0 0)).run Try.prog w = .ok (.bool false) w := Lib.run_eql_slice_nil w 40 5 (some ad) n c 0 0 Try.underlying40
    go_enter Try.func32, Try.ntmps32
    go_wp2_with (at_builtin; refine wpList_append_bytes _ rfl _ _ _ rfl w.heap.size 5 Try.underlying40 info8 _ [] rfl (own_new w 5 [] _ rfl (Nat.zero_le _)) w.heap.size (some ad) n c xs rfl HR.out hlen (by simp) ?_)
    intro v2 w2 ho2 hg2 _
    have HO := Lib.hid ho2
    have HB := Lib.hid (((Below.refl w.heap.size w).alloc (Nat.le_refl _) _).grown hg2 (by simp) (fun k hk => by simp [Value.ownBlock] at hk; omega))
    clear ho2 hg2
    go_wp2
    go_ret
    exact ⟨_, rfl, HO.out, HB.out⟩

theorem made_zeros (w : World) : (Instr.makeSlice 40 (.int .i64 16) (.int .i64 16)).run Try.prog w = .ok (.slice (some ⟨w.heap.size, 0, none⟩) 16 16) (w.alloc (.cells (zeros.map cellOf).toArray 5)) :=
  run_make_bytes w 40 5 Try.underlying40 info8 .i64 .i64 16 (by omega)

theorem own_zeros (w : World) : Own (w.alloc (.cells (zeros.map cellOf).toArray 5)) w.heap.size 5 (.slice (some ⟨w.heap.size, 0, none⟩) 16 16) zeros := own_made w 5 16 (by decide)

/-- Sixteen noughts, in a new block. -/
theorem zeros_any (w : World) :
    Calls Try.prog 39 #[] w fun e w' => e = .returned (.slice (some ⟨w.heap.size, 0, none⟩) 16 16) ∧ Own w' w.heap.size 5 (.slice (some ⟨w.heap.size, 0, none⟩) 16 16) zeros ∧ Below w.heap.size w w' := by
  have hm := made_zeros w
  have HO := Lib.hid (own_zeros w)
  have HB := Lib.hid ((Below.refl w.heap.size w).alloc (Nat.le_refl _) (.cells (zeros.map cellOf).toArray 5))
  generalize w.alloc (.cells (zeros.map cellOf).toArray 5) = w1 at *
  go_enter Try.func39, Try.ntmps39
  go_wp2
  go_ret
  exact ⟨rfl, HO.out, HB.out⟩

abbrev frameV (n : Int) : Value := .agg #[.int .i64 n, .func (.func 38) #[] #[]]

theorem padded_any (n : Int) (w : World) :
    Calls Try.prog 21 #[.int .i64 n] w fun e w' => e = .returned (frameV n) ∧ Below w.heap.size w w' := by
  have HB := Lib.hid ((Below.refl w.heap.size w).alloc (Nat.le_refl _) (.cells #[.int .i64 n, .func (.func 38) #[] #[]] 53))
  go_enter Try.func21, Try.ntmps21
  go_wp2
  refine bodyPost_ret (v := frameV n) ?_ rfl ⟨rfl, HB.out⟩
  simp [results, Try.results21, go_sem]

theorem four_cells {w : World} {g : Nat} {t : TypeId} {x0 x1 x2 x3 : Value} (h : w.heap[g]? = some (.cells #[x0, x1, x2, x3] t (0, 0))) :
    w.cell? ⟨g, 0, none⟩ = some x0 ∧ w.cell? ⟨g, 1, none⟩ = some x1 ∧ w.cell? ⟨g, 2, none⟩ = some x2 ∧ w.cell? ⟨g, 3, none⟩ = some x3 ∧
    w.frozen? ⟨g, 0, none⟩ = false ∧ w.frozen? ⟨g, 1, none⟩ = false ∧ w.frozen? ⟨g, 2, none⟩ = false ∧ w.frozen? ⟨g, 3, none⟩ = false := by
  simp [World.cell?, World.frozen?, h]

theorem pad_end {w w1 w2 : World} {x0 x1 x2 x3 y0 y1 y2 y3 : Value} {t : TypeId} (h1 : Below w.heap.size w w1) (h2 : Below w1.heap.size w1 w2) (ho : Own w2 w1.heap.size 5 (.slice (some ⟨w1.heap.size, 0, none⟩) 16 16) zeros) (hh : w2.heap[w.heap.size]? = some (.cells #[x0, x1, x2, x3] t (0, 0))) (hs : w1.heap.size = w.heap.size + 1 := by simp) :
    Own ((((w2.setCell ⟨w.heap.size, 0, none⟩ y0).setCell ⟨w.heap.size, 1, none⟩ y1).setCell ⟨w.heap.size, 2, none⟩ y2).setCell ⟨w.heap.size, 3, none⟩ y3) w.heap.size 5 (.slice (some ⟨w.heap.size + 1, 0, none⟩) 16 16) zeros ∧
    Below w.heap.size w ((((w2.setCell ⟨w.heap.size, 0, none⟩ y0).setCell ⟨w.heap.size, 1, none⟩ y1).setCell ⟨w.heap.size, 2, none⟩ y2).setCell ⟨w.heap.size, 3, none⟩ y3) ∧
    ∀ j v, ([y0, y1, y2, y3] : List Value)[j]? = some v → ((((w2.setCell ⟨w.heap.size, 0, none⟩ y0).setCell ⟨w.heap.size, 1, none⟩ y1).setCell ⟨w.heap.size, 2, none⟩ y2).setCell ⟨w.heap.size, 3, none⟩ y3).cell? (Addr.add ⟨w.heap.size, 0, none⟩ j) = some v := by
  rw [hs] at ho
  refine ⟨(ho.le (Nat.le_succ _)).keep fun k hk => ?_, ((((below_on h1 h2 h1.size).setCell (Nat.le_refl _) _).setCell (Nat.le_refl _) _).setCell (Nat.le_refl _) _).setCell (Nat.le_refl _) _, fun j v hj => ?_⟩
  · have hk1 := ho.block k hk
    have hn : k ≠ w.heap.size := by omega
    rw [Below.heap_setCell _ _ _ _ hn, Below.heap_setCell _ _ _ _ hn, Below.heap_setCell _ _ _ _ hn, Below.heap_setCell _ _ _ _ hn]
  · rw [add_plain, Nat.zero_add]
    have e : ((((w2.setCell ⟨w.heap.size, 0, none⟩ y0).setCell ⟨w.heap.size, 1, none⟩ y1).setCell ⟨w.heap.size, 2, none⟩ y2).setCell ⟨w.heap.size, 3, none⟩ y3).heap[w.heap.size]? = some (.cells #[y0, y1, y2, y3] t (0, 0)) := by
      simp [World.setCell, Array.getElem?_modify, hh]
    simp only [World.cell?, e]
    simpa using hj

/-- A pad, its bytes in a new block. -/
theorem pad_any (w : World) :
    Calls Try.prog 38 #[] w fun e w' => ∃ g, e = .returned (.agg #[.int .i64 3, .int .i64 0, .int .i64 0, .slice (some ⟨g, 0, none⟩) 16 16]) ∧ Own w' w.heap.size 5 (.slice (some ⟨g, 0, none⟩) 16 16) zeros ∧ Below w.heap.size w w' := by
  have HB := Lib.hid ((Below.refl w.heap.size w).alloc (Nat.le_refl _) (.cells #[.int .i64 0, .int .i64 0, .int .i64 0, .slice none 0 0] 59))
  go_enter Try.func38, Try.ntmps38
  go_wp2_with fail
  refine (zeros_any _).mono ?_
  rintro e w2 ⟨rfl, ho, hb⟩
  have hh : w2.heap[w.heap.size]? = some (.cells #[.int .i64 0, .int .i64 0, .int .i64 0, .slice none 0 0] 59 (0, 0)) := (hb.block w.heap.size (by simp)).trans (heap_alloc_new w _)
  obtain ⟨c0, c1, c2, c3, f0, f1, f2, f3⟩ := four_cells hh
  have HW := Lib.hid (And.intro ho (And.intro hb hh))
  clear ho hb hh
  go_wp2
  have HE := Lib.hid (pad_end (y0 := .int .i64 3) (y1 := .int .i64 0) (y2 := .int .i64 0) (y3 := .slice (some ⟨w.heap.size + 1, 0, none⟩) 16 16) HB.out HW.out.2.1 HW.out.1 HW.out.2.2)
  have k0 := HE.out.2.2 0 _ rfl
  have k1 := HE.out.2.2 1 _ rfl
  have k2 := HE.out.2.2 2 _ rfl
  have k3 := HE.out.2.2 3 _ rfl
  rw [add_plain, Nat.zero_add] at k0 k1 k2 k3
  refine bodyPost_ret (v := .agg #[.int .i64 3, .int .i64 0, .int .i64 0, .slice (some ⟨w.heap.size + 1, 0, none⟩) 16 16]) ?_ rfl ⟨_, rfl, HE.out.1, HE.out.2.1⟩
  simp [results, Try.results38, go_sem, k0, k1, k2, k3]

theorem fits_any (n : Int) (fn : Fn) (c1 c2 : Array Value) (m : Nat) (w : World) :
    Calls Try.prog 22 #[.agg #[.int .i64 n, .func fn c1 c2], .int .i64 (m : Int)] w fun e w' => e = .returned (.bool (decide (fits n m))) ∧ Below w.heap.size w w' := by
  have HB := Lib.hid ((Below.refl w.heap.size w).alloc (Nat.le_refl _) (.cells #[.int .i64 n, .func fn c1 c2] 53))
  by_cases h1 : 1 ≤ m
  · by_cases h2 : (m : Int) ≤ n
    · have g1 : (1 : Int) ≤ (m : Int) := by omega
      have HD := Lib.hid (show decide (fits n m) = decide (n ≤ 4) by rw [decide_eq_decide]; unfold fits; omega)
      go_enter Try.func22, Try.ntmps22
      go_wp2
      go_ret
      exact ⟨by rw [HD.out]; rfl, HB.out⟩
    · have g1 : (1 : Int) ≤ (m : Int) := by omega
      have HD := Lib.hid (show decide (fits n m) = false by rw [decide_eq_false_iff_not]; unfold fits; omega)
      go_enter Try.func22, Try.ntmps22
      go_wp2
      go_ret
      exact ⟨by rw [HD.out]; rfl, HB.out⟩
  · have g1 : ¬ (1 : Int) ≤ (m : Int) := by omega
    have HD := Lib.hid (show decide (fits n m) = false by rw [decide_eq_false_iff_not]; unfold fits; omega)
    go_enter Try.func22, Try.ntmps22
    go_wp2
    go_ret
    exact ⟨by rw [HD.out]; rfl, HB.out⟩

theorem sector_any (x : Sl) (Ap : Option Addr) (cp B : Nat) (w : World) (hB : B ≤ w.heap.size) (hc : x.d.length ≤ cp ∧ cp ≤ maxLen) (hr : Bytes w B Ap x.d.length x.d) :
    Calls Try.prog 23 #[slV x Ap cp] w fun e w' => ∃ A c, e = .returned (.slice A (sect x).length c) ∧ ((sect x).length ≤ c ∧ c ≤ maxLen) ∧ Lie w' (fun b => b < B ∨ (w.heap.size ≤ b ∧ b < w'.heap.size)) A (sect x).length (sect x) ∧ Below w.heap.size w w' := by
  obtain ⟨k, l, s, d, f⟩ := x
  dsimp only at hc hr
  have HB := Lib.hid ((Below.refl w.heap.size w).alloc (Nat.le_refl _) (.cells #[.int .i64 k, .int .i64 l, .int .i64 s, .slice Ap d.length cp, .int .i64 f] 42))
  by_cases h1 : k = 1
  · rw [sect_1 (show (Sl.mk k l s d f).k = 1 from h1)]
    subst h1
    have HL : Hid (Lie (w.alloc (.cells #[.int .i64 1, .int .i64 l, .int .i64 s, .slice Ap d.length cp, .int .i64 f] 42)) (fun b => b < B ∨ (w.heap.size ≤ b ∧ b < (w.alloc (.cells #[.int .i64 1, .int .i64 l, .int .i64 s, .slice Ap d.length cp, .int .i64 f] 42)).heap.size)) Ap d.length d) := Lib.hid (by
      have h := bytes_keep hr (HB.out.mono hB)
      exact ⟨h.1, fun i hi => by obtain ⟨b, off, e, hb, hc⟩ := h.2 i hi; exact ⟨b, off, e, .inl hb, hc⟩⟩)
    have HC := Lib.hid hc
    clear hr hc
    go_enter Try.func23, Try.ntmps23
    go_wp2
    go_ret
    exact ⟨_, _, rfl, HC.out, HL.out, HB.out⟩
  · by_cases h2 : k = 2
    · rw [sect_2 (show (Sl.mk k l s d f).k = 2 from h2)]
      subst h2
      clear hr hc h1
      go_enter Try.func23, Try.ntmps23
      go_wp2_with fail
      refine (zeros_any _).mono ?_
      rintro e w2 ⟨rfl, ho, hb⟩
      have HB2 := Lib.hid (below_on HB.out hb HB.out.size)
      rw [World.size_alloc] at ho
      have HO := Lib.hid (ho.le (Nat.le_succ _))
      clear ho hb
      go_wp2
      go_ret
      obtain ⟨A, c, e1, e2, e3, e4⟩ := Lie.of_own HO.out
      injection e1 with e1 _ e5
      subst e1 e5
      exact ⟨_, _, rfl, ⟨e2, e3⟩, e4.keep (fun b hb => .inr hb) (fun _ _ => rfl), HB2.out⟩
    · rw [sect_0 (show (Sl.mk k l s d f).k ≠ 1 from h1) (show (Sl.mk k l s d f).k ≠ 2 from h2)]
      have g1 : (k == 1) = false := by simpa using h1
      have g2 : (k == 2) = false := by simpa using h2
      clear hr hc h1 h2
      go_enter Try.func23, Try.ntmps23
      go_wp2
      go_ret
      exact ⟨none, 0, rfl, ⟨Nat.le_refl _, Nat.zero_le _⟩, ⟨rfl, fun i hi => absurd hi (by simp)⟩, HB.out⟩

end Go.Proofs.Yteonjdigcecceaa.PagePkg
