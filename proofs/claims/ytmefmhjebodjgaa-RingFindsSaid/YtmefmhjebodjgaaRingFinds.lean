/-
  RingFinds holds: the last slot of a client's with a sector is found, whatever is moved beside; for every size, all sectors and every sector. No condition.
-/
import Derived.Test.YtmefmhjebodjgaaRingKit
import Derived.Test.YtmefmhjebodjgaaLawKit
import Derived.OpenShut
import Derived.Test.YtmefmhjebodjgaaRingSt
import Derived.Test.YtmefmhjebodjgaaNums
namespace Go.Proofs.Ytmefmhjebodjgaa.ringFinds
open Go.RowKit Go.ChangeShapes Go.WideShapes Ring RingPkg RingLaw
set_option maxRecDepth 4000

def fr (i : Nat) : Int := if i % 3 = 2 then i else -1
def fs (zs : List Int) (k : Nat) : All := (List.range k).map fun (i : Nat) => (⟨0, zs.getD i 0, 0, [], fr i⟩, 0)
theorem fs_len (zs : List Int) (k : Nat) : (fs zs k).length = k := by simp [fs]
theorem fs_snoc (zs : List Int) (k : Nat) (z : Int) (h : zs[k]? = some z) : fs zs (k + 1) = fs zs k ++ [(⟨0, z, 0, [], fr k⟩, 0)] := by simp [fs, List.range_succ, h]
theorem fs_tl (zs : List Int) (k : Nat) : tl (fs zs k) = 0 := tl_zero _ (fun x hx => by
  simp only [fs, List.mem_map] at hx
  obtain ⟨i, _, rfl⟩ := hx
  show (0 : Int) ≠ 2
  decide)
def wnt (l : List Nat) : Int := ((l.getLast?).getD 0 : Nat)
def thr (l : List Nat) : Bool := (l.getLast?).isSome
theorem wnt_snoc (l : List Nat) (k : Nat) : wnt (l ++ [k]) = k := by simp [wnt]
theorem thr_snoc (l : List Nat) (k : Nat) : thr (l ++ [k]) = true := by simp [thr]
theorem find_is (zs : List Int) (k : Nat) (lba : Int) : find (fs zs k) lba = (sel (mine lba) (fs zs k)).getLast? := by
  unfold find
  rw [fs_tl, List.drop_zero]
  simp

set_option maxHeartbeats 4000000 in
theorem walk (size : Int) (A : Option Addr) (n c : Nat) (zs : List Int) (lba : Int) (w : World) (_hz0 : -9223372036854775808 ≤ size) (_hz1 : size ≤ 9223372036854775807) (hnc : n ≤ c) (hcm : c ≤ maxLen) (hr : Nums w w.heap.size A n zs) (_hb0 : -9223372036854775808 ≤ lba) (_hb1 : lba ≤ 9223372036854775807) :
    Calls Try.prog 7 #[.int .i64 size, .slice A n c, .int .i64 lba] w fun e w' => e = .returned (.bool true) ∧ Below w.heap.size w w' := by
  have HZ := Lib.hid hr
  have hn := Nat.le_trans hnc hcm
  clear hr hnc hcm _hz0 _hz1 _hb0 _hb1
  unfold maxLen at hn
  by_cases hin : 1 ≤ size ∧ size ≤ 256
  rotate_left
  · have H1 := Lib.hid (fun w => New_out size w hin)
    by_cases hs1 : size < 1
    · clear hin
      go_enter Try.func7, Try.ntmps7
      go_wp2_with fail
      refine (awake_any _).mono ?_
      rintro e w1 ⟨rfl, hb⟩
      have HB := Lib.hid hb
      clear hb
      go_wp2_with fail
      refine (H1.out _).mono ?_
      rintro e w2 ⟨rfl, hw⟩
      subst w2
      go_wp2
      go_ret
      exact ⟨rfl, HB.out⟩
    · have hs2 : 256 < size := by omega
      clear hin
      go_enter Try.func7, Try.ntmps7
      go_wp2_with fail
      refine (awake_any _).mono ?_
      rintro e w1 ⟨rfl, hb⟩
      have HB := Lib.hid hb
      clear hb
      go_wp2_with fail
      refine (H1.out _).mono ?_
      rintro e w2 ⟨rfl, hw⟩
      subst w2
      go_wp2
      go_ret
      exact ⟨rfl, HB.out⟩
  obtain ⟨hs1, hs2⟩ := hin
  obtain ⟨N, rfl⟩ := Int.eq_ofNat_of_zero_le (show 0 ≤ size by omega)
  go_enter Try.func7, Try.ntmps7
  go_wp2_with fail
  refine (awake_any _).mono ?_
  rintro e w1 ⟨rfl, hb⟩
  have HB := Lib.hid hb
  clear hb
  go_wp2_with fail
  refine (New_m w w1 HB.out N hs1 hs2).mono ?_
  rintro e w2 ⟨gd, rfl, h⟩
  have H := Lib.hid h
  clear h HB
  go_wp2
  go_loopw [10, 11, 12] (fun x y i wr => ∃ k : Nat, k ≤ n ∧ k ≤ N ∧ i = .int .i64 k ∧ x = .int .i64 (wnt (sel (mine lba) (fs zs k))) ∧ y = .bool (thr (sel (mine lba) (fs zs k))) ∧ Mine w gd N (fs zs k) wr) (fun _ _ i _ => N - (intOf i).toNat)
  case atStart => exact ⟨0, by omega, by omega, rfl, rfl, rfl, H.out⟩
  case round =>
    obtain ⟨k, hk, hkN, rfl, rfl, rfl, h⟩ := hrel
    replace H := Lib.hid h
    clear h
    by_cases hgo : k < n ∧ k < N
    · obtain ⟨hlt, hltN⟩ := hgo
      obtain ⟨b, off, z, rfl, hbl, hzk, hcw, _, _⟩ := HZ.out.at_ hlt
      have hc := (H.out.below.cell (p := ⟨b, off + k, none⟩) hbl).trans hcw
      have HCW := Lib.hid hcw
      have HZK := Lib.hid hzk
      clear hcw hzk
      obtain ⟨ww, hww⟩ : ∃ ww, ww = wnt (sel (mine lba) (fs zs k)) := ⟨_, rfl⟩
      obtain ⟨tt, htt⟩ : ∃ tt, tt = thr (sel (mine lba) (fs zs k)) := ⟨_, rfl⟩
      by_cases hk3 : k % 3 = 2
      · have hki : (k : Int) % 3 = 2 := by omega
        have HP := Lib.hid (Put_m H.out (by rw [fs_len]; omega) (by omega) (by omega) (by rw [fs_len, fs_tl]; omega) ⟨0, z, 0, [], (k : Int)⟩ none 0 0 (by omega) (bytes_none _ _))
        rw [fs_len] at HP
        by_cases hzl : z = lba
        · have h1 : (z == lba) = true := by simpa using hzl
          have HS2 : Hid (sel (mine lba) (fs zs (k + 1)) = sel (mine lba) (fs zs k)) := Lib.hid (by rw [fs_snoc zs k z HZK.out, sel_snoc, fs_len]; simp [mine, hzl, fr, hk3])
          clear hzl
          go_wp2_with fail
          refine HP.out.mono ?_
          rintro e w4 ⟨rfl, h⟩
          have h2 : Mine w gd N (fs zs (k + 1)) w4 := by rw [fs_snoc zs k z HZK.out]; simp only [fr, hk3, if_true]; exact h
          replace H := Lib.hid h2
          clear h h2 HP
          have hc2 := (H.out.below.cell (p := ⟨b, off + k, none⟩) hbl).trans HCW.out
          go_wp2
          go_roundw
          case rel => exact ⟨k + 1, by omega, by omega, by go_num, by rw [HS2.out], by rw [HS2.out], H.out⟩
          case measure => simp [intOf]; omega
        · have h1 : (z == lba) = false := by simpa using hzl
          have HS2 : Hid (sel (mine lba) (fs zs (k + 1)) = sel (mine lba) (fs zs k)) := Lib.hid (by rw [fs_snoc zs k z HZK.out, sel_snoc]; simp [mine, hzl])
          clear hzl
          go_wp2_with fail
          refine HP.out.mono ?_
          rintro e w4 ⟨rfl, h⟩
          have h2 : Mine w gd N (fs zs (k + 1)) w4 := by rw [fs_snoc zs k z HZK.out]; simp only [fr, hk3, if_true]; exact h
          replace H := Lib.hid h2
          clear h h2 HP
          have hc2 := (H.out.below.cell (p := ⟨b, off + k, none⟩) hbl).trans HCW.out
          go_wp2
          go_roundw
          case rel => exact ⟨k + 1, by omega, by omega, by go_num, by rw [HS2.out], by rw [HS2.out], H.out⟩
          case measure => simp [intOf]; omega
      · have hki : ¬ (k : Int) % 3 = 2 := by omega
        have HP := Lib.hid (Put_m H.out (by rw [fs_len]; omega) (by omega) (by omega) (by rw [fs_len, fs_tl]; omega) ⟨0, z, 0, [], -1⟩ none 0 0 (by omega) (bytes_none _ _))
        rw [fs_len] at HP
        by_cases hzl : z = lba
        · have h1 : (z == lba) = true := by simpa using hzl
          have HS2 : Hid (sel (mine lba) (fs zs (k + 1)) = sel (mine lba) (fs zs k) ++ [k]) := Lib.hid (by rw [fs_snoc zs k z HZK.out, sel_snoc, fs_len]; simp [mine, hzl, fr, hk3])
          clear hzl
          go_wp2_with fail
          refine HP.out.mono ?_
          rintro e w4 ⟨rfl, h⟩
          have h2 : Mine w gd N (fs zs (k + 1)) w4 := by rw [fs_snoc zs k z HZK.out]; simp only [fr, hk3, if_false]; exact h
          replace H := Lib.hid h2
          clear h h2 HP
          have hc2 := (H.out.below.cell (p := ⟨b, off + k, none⟩) hbl).trans HCW.out
          go_wp2
          go_roundw
          case rel => exact ⟨k + 1, by omega, by omega, by go_num, by rw [HS2.out, wnt_snoc], by rw [HS2.out, thr_snoc], H.out⟩
          case measure => simp [intOf]; omega
        · have h1 : (z == lba) = false := by simpa using hzl
          have HS2 : Hid (sel (mine lba) (fs zs (k + 1)) = sel (mine lba) (fs zs k)) := Lib.hid (by rw [fs_snoc zs k z HZK.out, sel_snoc]; simp [mine, hzl])
          clear hzl
          go_wp2_with fail
          refine HP.out.mono ?_
          rintro e w4 ⟨rfl, h⟩
          have h2 : Mine w gd N (fs zs (k + 1)) w4 := by rw [fs_snoc zs k z HZK.out]; simp only [fr, hk3, if_false]; exact h
          replace H := Lib.hid h2
          clear h h2 HP
          have hc2 := (H.out.below.cell (p := ⟨b, off + k, none⟩) hbl).trans HCW.out
          go_wp2
          go_roundw
          case rel => exact ⟨k + 1, by omega, by omega, by go_num, by rw [HS2.out], by rw [HS2.out], H.out⟩
          case measure => simp [intOf]; omega
    · have hFD := Find_m H.out (by rw [fs_len]; omega) lba
      rw [find_is] at hFD
      have HFD := Lib.hid hFD
      have hstop : decide (k < n) = false ∨ (decide (k < n) = true ∧ decide (k < N) = false) := by
        by_cases h : k < n
        · exact .inr ⟨by simpa using h, by have : ¬ k < N := fun h2 => hgo ⟨h, h2⟩; simpa using this⟩
        · exact .inl (by simpa using h)
      clear hgo hFD
      generalize sel (mine lba) (fs zs k) = l at HFD ⊢
      cases hl : l.getLast? with
      | none =>
        rw [hl] at HFD
        simp only at HFD
        rw [show wnt l = 0 by simp [wnt, hl], show thr l = false by simp [thr, hl]]
        clear hl
        rcases hstop with h1 | ⟨h1, h2⟩
        all_goals
          go_wp2_with fail
          refine HFD.out.mono ?_
          rintro e w5 ⟨rfl, h⟩
          replace H := Lib.hid h
          clear h HFD
          go_wp2
          go_ret
          exact ⟨rfl, H.out.below⟩
      | some i =>
        rw [hl] at HFD
        simp only at HFD
        rw [show wnt l = i by simp [wnt, hl], show thr l = true by simp [thr, hl]]
        clear hl
        rcases hstop with h1 | ⟨h1, h2⟩
        all_goals
          go_wp2_with fail
          refine HFD.out.mono ?_
          rintro e w5 ⟨rfl, h⟩
          replace H := Lib.hid h
          clear h HFD
          go_wp2
          go_ret
          exact ⟨rfl, H.out.below⟩

theorem own : ownKnob Try.prog.godebug = none := by kernel_rfl
theorem laid : laidOutB Try.prog = true := by kernel_rfl
theorem one64 : Try.prog.cellsOf 3 = 1 := by kernel_rfl

set_option maxRecDepth 100000 in
theorem lifted (os : Os) (started : os.Started) (H : Type) (enc : TypeId × Value → H) :
    ReturnsInHanded {} Try.checked os 7 .any (Rows.ringFindsSpec.pre6 enc Try.prog Try.f7 Rows.ringFindsRow.domain false) (Rows.ringFindsSpec.post enc Try.prog Try.f7 false true false false) := by
  refine returnsInHanded_of_change (C := Try.checked) own started (by kernel_rfl) Try.func7
    (ChangeSpec.witness6 (enc := enc) (C := Try.checked) false ⟨#[], #[.int .i64 0, .slice none 0 0, .int .i64 0], []⟩ 8 (by kernel_rfl) (by kernel_rfl) (by kernel_rfl) (by kernel_rfl)) ?_
  intro W base args ds gs before hval0 hW _ _
  have hval : ∀ (j : Nat) t v, Try.f7.params[j]? = some t → args[j]? = some v → Value.okWide Try.prog W .any base t v := hval0
  have hW' := hW
  obtain ⟨p, q, hA0, hV, rfl, hfz, hnd⟩ := hW
  have hA : DataW.TrodAll enc Try.prog W 0 (fun _ => true) true Try.f7.params.toList args.toList ds p := hA0
  rw [Try.params7] at hA hval
  obtain ⟨v0, v1, v2, d0, d1, d2, p0, p1, p2, rfl, rfl, rfl, h0, h1, h2⟩ := trodAll_three hA
  obtain ⟨a0, rfl, rfl, rfl, wf0⟩ := open_int Try.underlying3 (hval 0 3 v0 rfl rfl) h0
  have hb0 : -9223372036854775808 ≤ a0 ∧ a0 ≤ 9223372036854775807 := by simpa [Lit.wf, IntKind.min, IntKind.max, IntKind.signed, IntKind.bits] using wf0
  obtain ⟨A1, n1, c1, zs1, rfl, hnc1, hcm1, hr1⟩ := open_nums Try.underlying41 Try.underlying3 one64 (hval 1 41 v1 rfl rfl) h1
  obtain ⟨a2, rfl, rfl, rfl, wf2⟩ := open_int Try.underlying3 (hval 2 3 v2 rfl rfl) h2
  have hb2 : -9223372036854775808 ≤ a2 ∧ a2 ≤ 9223372036854775807 := by simpa [Lit.wf, IntKind.min, IntKind.max, IntKind.signed, IntKind.bits] using wf2
  refine (walk a0 A1 n1 c1 zs1 a2 W hb0.1 hb0.2 hnc1 hcm1 hr1 hb2.1 hb2.2).mono fun e W' ⟨he, hb⟩ => ?_
  subst he
  exact ⟨_, rfl, Law.post laid (by kernel_rfl) (by kernel_rfl) Try.underlying4 rfl hW' rfl hb⟩

theorem proved : Rows.RingFindsSaid :=
  OpenClaim.holds_of_wide 7 Try.f7 rfl rfl rfl rfl rfl rfl rfl ⟨rfl, rfl, rfl, rfl, rfl⟩ rfl rfl rfl rfl rfl (by kernel_rfl) Try.func7 (by kernel_rfl)
    (of_decide_eq_true (by kernel_rfl)) (by unfold Func.isWrapper; first | (rw [if_pos (by decide +kernel)]; kernel_rfl) | (rw [if_neg (by decide +kernel)]; exact ⟨rfl, rfl⟩))
    (fun os started H enc _ => lifted os started H enc)

end Go.Proofs.Ytmefmhjebodjgaa.ringFinds
