/-
  What the document's answer for package plan does: New, Next, Rest.
-/
import Derived.Test.YtlmdlhfdacmcnaaPlanNew
import Derived.Test.YtlmdlhfdacmcnaaNums
import Derived.BigQuiet
import Derived.RegionTactic
namespace Go.Proofs.Ytlmdlhfdacmcnaa.PlanPkg
open Go.RowKit
set_option maxRecDepth 4000

/-- The document's plan in memory. -/
abbrev RefAt (w : World) (lo g : Nat) (xs : List UInt8) (k : Int) : Prop := Bag 101 w lo g xs k

theorem refNew_any (A : Option Addr) (n c B : Nat) (xs : List UInt8) (w : World) (hn : n ≤ 100000000000000) (hr : Bytes w B A n xs) (hB : B ≤ w.heap.size) :
    Calls Try.prog 42 #[.slice A n c] w fun e w' => ∃ g, e = .returned (ptr g) ∧ w.heap.size ≤ g ∧ RefAt w' w.heap.size g xs 0 ∧ Below w.heap.size w w' := by
  have hlen : ([] : List UInt8).length + n ≤ 140737488355328 := by simp; omega
  have HR := Lib.hid (bytes_keep (bytes_more hr hB) ((Below.refl w.heap.size w).alloc (Nat.le_refl _) (.cells #[] 5)))
  clear hr
  go_enter Try.func42, Try.ntmps42
  go_wp2_with (at_builtin; refine wpList_append_bytes _ rfl _ _ _ rfl w.heap.size 5 Try.underlying47 info8 _ [] rfl (own_new w 5 [] _ rfl (Nat.zero_le _)) w.heap.size A n c xs rfl HR.out hlen (by simp) ?_)
  intro v2 w2 ho2 hg2 _
  replace ho2 : Own w2 w.heap.size 5 v2 xs := ho2
  have hb := ((Below.refl w.heap.size w).alloc (Nat.le_refl _) _).grown hg2 (by simp) (fun k hk => by simp [Value.ownBlock] at hk; omega)
  obtain ⟨A2, c2, rfl, h1, h2, hs⟩ := ho2.span
  have HS := Lib.hid hs
  have HB := Lib.hid hb
  have h3 := hb.size
  have HL := Lib.hid h2
  clear ho2 hg2 hb hs h2
  go_wp2
  go_ret
  exact ⟨w2.heap.size, rfl, h3, Bag.new h1 HL.out HS.out 0, HB.out.alloc h3 _⟩

theorem grown_draws {a w : World} {row : Option Nat} (h : a.grownBy w row) (n : Nat) : a.grownBy (w.drewN n) row := ⟨h.os, h.tape, h.output, h.size, h.block⟩

theorem drop_at {xs : List UInt8} {k : Nat} (h : k < xs.length) : xs.drop k = xs[k] :: xs.drop (k + 1) := List.drop_eq_getElem_cons h

theorem refNext_out (lo g : Nat) (xs : List UInt8) (k : Nat) (s : Int) (w : World) (h : RefAt w lo g xs k) (hk : xs.length ≤ k) (hk2 : (k : Int) < 9223372036854775807) :
    Calls Try.prog 65 #[ptr g, .int .i64 s] w fun e w' => e = .returned (.tuple #[.int .i64 0, .int .i64 0]) ∧ RefAt w' lo g xs ((k : Int) + 1) ∧ w.grownBy w' (some g) := by
  have hlt := h.lt
  obtain ⟨A, n, c, h1, h2, h3, h4⟩ := h
  rw [h4.1] at hk
  have hc0 := cells2_0 h1
  have hc1 := cells2_1 h1
  have H1 := Lib.hid h1
  have H3 := Lib.hid h3
  have H4 := Lib.hid h4
  clear h1 h3 h4
  go_enter Try.func65, Try.ntmps65
  go_wp2
  go_ret2
  have hg := grown_setCell w ⟨g, 1, none⟩ (.int .i64 ((k : Int) + 1))
  exact ⟨rfl, ⟨A, n, c, cells2_set1 H1.out _, h2, H3.out, H4.out.keep fun b _ hb => hg.block b (by omega) (by intro e; injection e with e; simp at e; omega)⟩, hg⟩

theorem refNext_in (lo g : Nat) (xs : List UInt8) (k : Nat) (s : Int) (w : World) (h : RefAt w lo g xs k) (hk : k < xs.length) (hk2 : (k : Int) < 9223372036854775807) :
    Calls Try.prog 65 #[ptr g, .int .i64 s] w fun e w' => e = .returned (.tuple #[.int .i64 (Plan.out (xs[k]).toNat), .int .i64 (Plan.wrt (xs[k]).toNat s)]) ∧ RefAt w' lo g xs ((k : Int) + 1) ∧ w.grownBy w' (some g) := by
  have hlt := h.lt
  obtain ⟨A, n, c, h1, h2, h3, h4⟩ := h
  have hkn : k < n := by rw [← h4.1]; exact hk
  obtain ⟨b, off, rfl, _, hb, hx⟩ := h4.2 k hk
  have hbd := u8_bd xs[k]
  obtain ⟨z, hz⟩ : ∃ z, z = ((xs[k]).toNat : Int) := ⟨_, rfl⟩
  rw [← hz] at hx hbd ⊢
  have hne : b ≠ g := by omega
  have hc1 := cells2_1 h1
  have H1 := Lib.hid h1
  have H3 := Lib.hid h3
  have H4 := Lib.hid h4
  have HX := Lib.hid hx
  clear h1 h3 h4 hx hz
  go_enter Try.func65, Try.ntmps65
  go_upto_region 3 with fail
  refine at_wld ?_
  intro X hX
  have h1 : X.heap[g]? = some (.cells #[.slice (some ⟨b, off, none⟩) n c, .int .i64 ((k : Int) + 1)] 101 (0, 0)) := by rw [hX]; exact cells2_set1 H1.out _
  have hg : w.grownBy X (some g) := by rw [hX]; exact grown_setCell _ _ _
  have hx : X.cell? ⟨b, off + k, none⟩ = some (.int .u8 z) := by rw [hX, World.cell?_of_block (w := w) (Below.heap_setCell _ _ _ _ hne)]; exact HX.out
  have hc0 := cells2_0 h1
  replace H1 := Lib.hid h1
  have HG := Lib.hid hg
  have HE := Lib.hid (show RefAt X lo g xs ((k : Int) + 1) from ⟨_, n, c, h1, h2, H3.out, H4.out.keep fun b _ hb => hg.block b (by omega) (by intro e; injection e; omega)⟩)
  clear hX hc1 h1 hg hk hk2
  by_cases h3 : z % 4 = 3
  · have HO := Lib.hid (show Plan.out z = 0 from if_pos h3)
    have HW := Lib.hid (show Plan.wrt z s = 0 from if_neg (by rw [HO.out]; omega))
    go_wp2
    go_ret2
    exact ⟨by rw [HO.out, HW.out]; rfl, HE.out, HG.out⟩
  · have HO := Lib.hid (show Plan.out z = z % 4 from if_neg h3)
    by_cases h4 : z % 4 = 2
    · by_cases h5 : s < 0
      · have HW := Lib.hid (show Plan.wrt z s = 0 from if_neg (by omega))
        go_wp2
        go_ret2
        exact ⟨by rw [HO.out, HW.out]; rfl, HE.out, HG.out⟩
      · by_cases h6 : 4 < s
        · have HW := Lib.hid (show Plan.wrt z s = 0 from if_neg (by omega))
          go_wp2
          go_ret2
          exact ⟨by first | (rw [HO.out, h4, HW.out]; rfl) | (rw [HO.out, HW.out]; rfl), HE.out, HG.out⟩
        · have HW := Lib.hid (show Plan.wrt z s = (z / 4) % (s + 1) from if_pos (by rw [HO.out]; omega))
          replace HO := Lib.hid (HO.out.trans h4)
          have h7 : ¬ s + 1 = 0 := by omega
          go_wp2
          go_quiet (fail)
          go_wp2
          go_ret2
          exact ⟨by rw [HO.out, HW.out]; rfl, HE.out, grown_draws HG.out _⟩
    · have HW := Lib.hid (show Plan.wrt z s = 0 from if_neg (by rw [HO.out]; omega))
      go_wp2
      go_ret2
      exact ⟨by rw [HO.out, HW.out]; rfl, HE.out, HG.out⟩

theorem refNext_any (lo g : Nat) (xs : List UInt8) (k : Nat) (s : Int) (w : World) (h : RefAt w lo g xs k) (hk2 : (k : Int) < 9223372036854775807) :
    Calls Try.prog 65 #[ptr g, .int .i64 s] w fun e w' => e = .returned (.tuple #[.int .i64 (Plan.says (xs.drop k)), .int .i64 (Plan.many (xs.drop k) s)]) ∧ RefAt w' lo g xs ((k : Int) + 1) ∧ w.grownBy w' (some g) := by
  rcases Nat.lt_or_ge k xs.length with hk | hk
  · rw [drop_at hk]
    exact refNext_in lo g xs k s w h hk hk2
  · rw [List.drop_eq_nil_of_le hk]
    exact refNext_out lo g xs k s w h hk hk2

end Go.Proofs.Ytlmdlhfdacmcnaa.PlanPkg
