/-
  The document's own answer for layer 15: Head.
-/
import Derived.Test.YteonjdigcecceaaPageRefBuild
import Derived.Test.YteonjdigcecceaaPageHead
import Derived.Test.YteonjdigcecceaaMarkRef
namespace Go.Proofs.Yteonjdigcecceaa.PageRef
open Go.RowKit Go.ChangeShapes Go.WideShapes Page PagePkg
set_option maxRecDepth 4000

theorem ownV_one (w : World) (e : TypeId) (x : Value) : OwnV (w.alloc (.cells #[x] e)) w.heap.size e (.slice (some ⟨w.heap.size, 0, none⟩) 1 1) [x] :=
  ⟨rfl, .inr ⟨w.heap.size, 1, #[x], rfl, Nat.le_refl _, heap_alloc_new w _, Nat.le_refl _, by decide, by simp, by simp⟩⟩

/-- Two slices of one, laid one behind the other. -/
theorem pz_one {w : World} (r : Rz) (hf : r.d.length ≤ r.c ∧ r.c ≤ maxLen ∧ r.o.length ≤ r.e ∧ r.e ≤ maxLen) (h1 : Bytes w w.heap.size r.A r.d.length r.d) (h2 : Bytes w w.heap.size r.B r.o.length r.o) :
    Pz ((w.alloc (.cells #[r.x] 40)).alloc (.cells #[r.y] 40)) w.heap.size (.slice (some ⟨w.heap.size, 0, none⟩) 1 1) (.slice (some ⟨w.heap.size + 1, 0, none⟩) 1 1) [r] := by
  have hb := (((Below.refl w.heap.size w).alloc (Nat.le_refl _) (.cells #[r.x] 40))).alloc (by simp) (.cells #[r.y] 40)
  have ho := ownV_one (w.alloc (.cells #[r.x] 40)) 40 r.y
  rw [World.size_alloc] at ho
  refine ⟨(ownV_one w 40 r.x).alloc _, ho.le (Nat.le_succ _), fun q hq => by rw [List.mem_singleton.1 hq]; exact hf, fun q hq => ?_, fun k h1 h2 => ?_⟩
  · rw [List.mem_singleton.1 hq]
    exact ⟨good_old (bytes_keep h1 hb) hb.size (fun k hk => by simp [Value.ownBlock] at hk; omega) (fun k hk => by simp [Value.ownBlock] at hk; omega), good_old (bytes_keep h2 hb) hb.size (fun k hk => by simp [Value.ownBlock] at hk; omega) (fun k hk => by simp [Value.ownBlock] at hk; omega)⟩
  · simp [Value.ownBlock] at h1 h2
    omega

theorem Pz.le {w : World} {lo lo' : Nat} {a b : Value} {rs : List Rz} (h : Pz w lo a b rs) (hl : lo' ≤ lo) : Pz w lo' a b rs := ⟨h.own1.le hl, h.own2.le hl, h.fit, h.lie, h.apart⟩

set_option maxHeartbeats 2000000 in
theorem rHead_any (n l r s : Int) (w : World) :
    Calls Try.prog 15 #[.int .i64 n, OobPkg.tri l r s] w fun e w' => RBuilt n (heads l r s) w w' e := by
  have HBM := Lib.hid ((Below.refl w.heap.size w).alloc (Nat.le_refl _) (.cells #[.int .i64 l, .int .i64 r, .int .i64 s] 33))
  have HM := Lib.hid (OobPkg.Three.new 33 w l r s)
  by_cases hok : Mark.Ok l r s
  · have HSEC := Lib.hid (fun w => MarkPkg.rSector_fit hok w)
    have HOOB := Lib.hid (fun w => MarkPkg.rOob_ok hok w)
    have hh : heads l r s = [⟨4, l, s, Mark.code l r s⟩] := if_pos hok
    rw [hh]
    have HOK := Lib.hid (head_ok hok)
    clear hh hok
    obtain ⟨cd, hcd⟩ : ∃ cd, cd = Mark.code l r s := ⟨_, rfl⟩
    rw [← hcd] at HOK ⊢
    simp only [← hcd] at HSEC
    have HCD := Lib.hid (show cd.length = 16 by rw [hcd]; rfl)
    clear hcd
    by_cases hf : fits n 1
    · obtain ⟨N, rfl⟩ : ∃ N : Nat, n = (N : Int) := ⟨n.toNat, by unfold fits at hf; omega⟩
      have h1N : 1 ≤ N := by unfold fits at hf; omega
      have hN4 : N ≤ 4 := by unfold fits at hf; omega
      have HFT := Lib.hid hf
      have g1 : ¬ (N : Int) < 1 := by omega
      have g2 : ¬ (4 : Int) < (N : Int) := by omega
      clear hf
      go_enter Try.func15, Try.ntmps15
      go_wp2_with fail
      refine (HSEC.out _).mono ?_
      rintro e w3 ⟨As, cs, rfl, hr3, hcs, hb3⟩
      have HB3 := Lib.hid (below_on HBM.out hb3 HBM.out.size)
      have HM3 := Lib.hid (HM.out.keep hb3)
      have HR3 := Lib.hid hr3
      have m0 := HM3.out.c0
      have m1 := HM3.out.c1
      have m2 := HM3.out.c2
      clear hb3 hr3 HSEC HM
      go_wp2_with fail
      refine (HOOB.out _).mono ?_
      rintro e w4 ⟨rfl, hb4⟩
      have HR4 := Lib.hid (bytes_more (bytes_keep HR3.out hb4) hb4.size)
      have HB4 := Lib.hid (below_on HB3.out hb4 HB3.out.size)
      have ha5 := (Below.refl w4.heap.size w4).alloc (Nat.le_refl _) (.cells #[.int .i64 4, .int .i64 l, .int .i64 s] 44)
      have HR5 := Lib.hid (bytes_more (bytes_keep HR4.out ha5) ha5.size)
      have HB5 := Lib.hid (HB4.out.alloc HB4.out.size (.cells #[.int .i64 4, .int .i64 l, .int .i64 s] 44))
      have HPK := Lib.hid (OobPkg.rPack_ok 4 l s As cs cd _ HOK.out.1 HR5.out)
      clear hb4 ha5 HOOB m0 m1 m2
      go_wp2_with fail
      refine HPK.out.mono ?_
      rintro e w6 ⟨v6, rfl, ho6, hb6⟩
      obtain ⟨A6, c6, e6, hc6, hc6', _⟩ := Lie.of_own ho6
      obtain ⟨A6', c6', e6', hr6⟩ := ho6.reads
      rw [e6] at e6'
      injection e6' with ea _ ec
      subst ea ec
      rw [Oob.full_len] at e6 hc6 hr6
      subst e6
      have HB6 := Lib.hid (below_on HB5.out hb6 HB5.out.size)
      have HR6 := Lib.hid (bytes_more (bytes_keep HR5.out hb6) hb6.size)
      have HR6' := Lib.hid hr6
      have HC6 := Lib.hid (And.intro hc6 hc6')
      clear ho6 hb6 hr6 hc6 hc6' HPK
      have hone := pz_one (w := w6) ⟨As, cs, cd, A6, c6, Oob.full 4 l s cd⟩ ⟨by show cd.length ≤ cs; rw [HCD.out]; exact hcs.1, hcs.2, HC6.out.1, HC6.out.2⟩ (by show Bytes w6 w6.heap.size As cd.length cd; rw [HCD.out]; exact HR6.out) HR6'.out
      have hx : (Rz.mk As cs cd A6 c6 (Oob.full 4 l s cd)).x = .slice As 16 cs := by show Value.slice As cd.length cs = _; rw [HCD.out]
      have hy : (Rz.mk As cs cd A6 c6 (Oob.full 4 l s cd)).y = .slice A6 17 c6 := rfl
      rw [hx, hy] at hone
      have hb7 := (((Below.refl w6.heap.size w6).alloc (Nat.le_refl _) (.cells #[.slice As 16 cs] 40))).alloc (by simp) (.cells #[.slice A6 17 c6] 40)
      have HFL := Lib.hid (rfilled_any N [⟨4, l, s, cd⟩] hone rfl h1N hN4 hb7.size)
      have HB7 := Lib.hid (HB6.out.trans (hb7.mono HB6.out.size))
      have hs6 : w.heap.size ≤ w6.heap.size := HB6.out.size
      clear hone hx hy hb7 hcs
      go_wp2_with fail
      refine HFL.out.mono ?_
      rintro e w8 ⟨a, b, rs', rfl, h1, h2, h3⟩
      have HEND := Lib.hid (show RBuilt (N : Int) [⟨4, l, s, cd⟩] w w8 (.returned (.tuple #[a, b, .int .i64 0])) from .inl ⟨⟨HFT.out, fun p hp => by rw [List.mem_singleton.1 hp]; exact HOK.out⟩, a, b, rs', rfl, h1.le hs6, by rw [Int.toNat_natCast]; exact h2, HB7.out.trans (h3.mono hs6)⟩)
      clear h1 h2 h3
      go_wp2
      go_ret3
      exact HEND.out
    · have HNO := Lib.hid (show ¬ (fits n [Pc.mk 4 l s cd].length ∧ ∀ p ∈ [Pc.mk 4 l s cd], p.Ok) from fun h => hf h.1)
      by_cases h1 : n < 1
      · clear hf
        go_enter Try.func15, Try.ntmps15
        go_wp2_with fail
        refine (HSEC.out _).mono ?_
        rintro e w3 ⟨As, cs, rfl, hr3, hcs, hb3⟩
        have HEND := Lib.hid (show RBuilt n [⟨4, l, s, cd⟩] w w3 (.returned (.tuple #[.slice none 0 0, .slice none 0 0, .int .i64 1])) from .inr ⟨HNO.out, rfl, below_on HBM.out hb3 HBM.out.size⟩)
        clear hb3 hr3 hcs HSEC
        go_wp2
        go_ret3
        exact HEND.out
      · have h2 : 4 < n := by unfold fits at hf; omega
        clear hf
        go_enter Try.func15, Try.ntmps15
        go_wp2_with fail
        refine (HSEC.out _).mono ?_
        rintro e w3 ⟨As, cs, rfl, hr3, hcs, hb3⟩
        have HEND := Lib.hid (show RBuilt n [⟨4, l, s, cd⟩] w w3 (.returned (.tuple #[.slice none 0 0, .slice none 0 0, .int .i64 1])) from .inr ⟨HNO.out, rfl, below_on HBM.out hb3 HBM.out.size⟩)
        clear hb3 hr3 hcs HSEC
        go_wp2
        go_ret3
        exact HEND.out
  · have HSEC := Lib.hid (fun w => MarkPkg.rSector_bad hok w)
    have hh : heads l r s = [] := if_neg hok
    rw [hh]
    have HNO := Lib.hid (show ¬ (fits n ([] : List Pc).length ∧ ∀ p ∈ ([] : List Pc), p.Ok) from fun h => by have := h.1.1; simp at this)
    clear hh hok
    by_cases h1 : n < 1
    · go_enter Try.func15, Try.ntmps15
      go_wp2_with fail
      refine (HSEC.out _).mono ?_
      rintro e w3 ⟨rfl, hb3⟩
      have HEND := Lib.hid (show RBuilt n [] w w3 (.returned (.tuple #[.slice none 0 0, .slice none 0 0, .int .i64 1])) from .inr ⟨HNO.out, rfl, below_on HBM.out hb3 HBM.out.size⟩)
      clear hb3 HSEC
      go_wp2
      go_ret3
      exact HEND.out
    · by_cases h2 : 4 < n
      · go_enter Try.func15, Try.ntmps15
        go_wp2_with fail
        refine (HSEC.out _).mono ?_
        rintro e w3 ⟨rfl, hb3⟩
        have HEND := Lib.hid (show RBuilt n [] w w3 (.returned (.tuple #[.slice none 0 0, .slice none 0 0, .int .i64 1])) from .inr ⟨HNO.out, rfl, below_on HBM.out hb3 HBM.out.size⟩)
        clear hb3 HSEC
        go_wp2
        go_ret3
        exact HEND.out
      · go_enter Try.func15, Try.ntmps15
        go_wp2_with fail
        refine (HSEC.out _).mono ?_
        rintro e w3 ⟨rfl, hb3⟩
        have HEND := Lib.hid (show RBuilt n [] w w3 (.returned (.tuple #[.slice none 0 0, .slice none 0 0, .int .i64 1])) from .inr ⟨HNO.out, rfl, below_on HBM.out hb3 HBM.out.size⟩)
        clear hb3 HSEC
        go_wp2
        go_ret3
        exact HEND.out

end Go.Proofs.Yteonjdigcecceaa.PageRef
