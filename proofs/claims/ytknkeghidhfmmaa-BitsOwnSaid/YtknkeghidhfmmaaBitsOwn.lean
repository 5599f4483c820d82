/-
  BitsOwn: for every slice of bytes, every int and every bool the law answers true, and the slice reads afterwards as it read before. No condition.
-/
import Derived.Test.YtknkeghidhfmmaaBitsKit
namespace Go.Proofs.Ytknkeghidhfmmaa.bitsOwn
open Go.ChangeShapes Go.WideShapes Go.ChangeAt Go.RowKit Go.Proofs.Ytknkeghidhfmmaa.BitsPkg
set_option maxRecDepth 4000

/-- A byte with all its bits turned. -/
def flip (x : UInt8) : UInt8 := x ^^^ 255

theorem flip_flip (x : UInt8) : flip (flip x) = x := by
  unfold flip
  rw [UInt8.xor_assoc]
  simp

theorem xor_flip (x : UInt8) : bits .xor .u8 (x.toNat : Int) 255 = ((flip x).toNat : Int) := by
  have h := u8_xor_nat x.toNat 255 x.toNat_lt (by omega)
  rw [show ((255 : Nat) : Int) = 255 from rfl] at h
  rw [h]
  unfold flip
  rw [UInt8.toNat_xor]
  rfl

/-- The first k bytes turned. -/
def mix (ys : List UInt8) (k : Nat) : List UInt8 := (ys.take k).map flip ++ ys.drop k

theorem mix_zero (ys : List UInt8) : mix ys 0 = ys := by simp [mix]
theorem mix_all (ys : List UInt8) : mix ys ys.length = ys.map flip := by simp [mix]
theorem mix_len (ys : List UInt8) (k : Nat) : (mix ys k).length = ys.length := by simp [mix]; omega
theorem mix_at {ys : List UInt8} {k : Nat} {y : UInt8} (h : ys[k]? = some y) : (mix ys k)[k]? = some y := by
  obtain ⟨hl, rfl⟩ := List.getElem?_eq_some_iff.1 h
  rw [mix, List.getElem?_append_right (by simp; omega)]
  simp
  rw [show k + (k - min k ys.length) = k by omega]
  exact h
theorem mix_next {ys : List UInt8} {k : Nat} {y : UInt8} (h : ys[k]? = some y) : (mix ys k).set k (flip y) = mix ys (k + 1) := by
  obtain ⟨hl, rfl⟩ := List.getElem?_eq_some_iff.1 h
  have e1 : ((ys.take k).map flip).length = k := by simp; omega
  rw [mix, mix, List.set_append_right _ _ (by omega), e1, Nat.sub_self, List.drop_eq_getElem_cons hl, List.set_cons_zero, List.take_succ_eq_append_getElem hl, List.map_append, List.append_assoc]
  rfl

theorem str_neq (xs : List UInt8) : ((str xs).toList != (str xs).toList) = false := by simp

set_option maxHeartbeats 4000000 in
theorem walk (A : Option Addr) (n c : Nat) (xs : List UInt8) (i : Int) (on : Bool) (w : World) (hnc : n ≤ c) (hcm : c ≤ maxLen) (hr : Bytes w w.heap.size A n xs) (h0 : -9223372036854775808 ≤ i) (h1 : i ≤ 9223372036854775807) :
    Calls Try.prog 9 #[.slice A n c, .int .i64 i, .bool on] w fun e w' => e = .returned (.bool true) ∧ Below w.heap.size w w' := by
  have HR := Lib.hid hr
  clear hr
  have hn := Nat.le_trans hnc hcm
  unfold maxLen at hn hcm
  go_enter Try.func9, Try.ntmps9
  go_wp2_with fail
  refine (awake_any _).mono ?_
  rintro e w1 ⟨rfl, hb⟩
  have HB := Lib.hid hb
  clear hb
  by_cases hl : 3000 < n
  · go_wp2
    go_ret
    exact ⟨rfl, HB.out⟩
  · have hlen : ([] : List UInt8).length + n ≤ 140737488355328 := by simp; omega
    go_wp2_with (at_builtin; refine wpList_append_bytes _ rfl _ _ _ rfl w1.heap.size 5 Try.underlying22 info8 _ [] rfl (own_new w1 5 [] _ rfl (Nat.zero_le _)) w1.heap.size A n c xs rfl (bytes_keep (bytes_more (bytes_keep HR.out HB.out) HB.out.size) ((Below.refl w1.heap.size w1).alloc (Nat.le_refl _) _)) hlen (by simp) ?_)
    intro v2 w2 ho2 hg2 _
    have hb2 := ((Below.refl w1.heap.size w1).alloc (Nat.le_refl _) _).grown hg2 (by simp) (fun k hk => by simp [Value.ownBlock] at hk; omega)
    replace HB := Lib.hid (below_on HB.out hb2)
    obtain ⟨A2, c2, rfl, hr2⟩ := ho2.reads
    have hxl : xs.length = n := HR.out.1
    have hr2' : Bytes w2 w2.heap.size A2 n xs := by
      have h := hr2
      simp only [hxl] at h
      exact h
    have HR2 := Lib.hid hr2'
    clear ho2 hg2 hb2 hr2 hr2' hlen
    rw [hxl]
    clear hxl
    have hq := str_eq (rfl : xs = xs)
    by_cases hin : i < 0 ∨ 8 * (n : Int) ≤ i
    · have HIN := Lib.hid hin
      clear hin
      have hs1 := run_str (P := Try.prog) w2 22 9 5 Try.underlying22 Try.underlying5 Try.underlying9 (c := c2) HR2.out
      have hs2 := run_str (P := Try.prog) w2 22 9 5 Try.underlying22 Try.underlying5 Try.underlying9 (c := c) (bytes_keep HR.out HB.out)
      go_wp2_with fail
      refine (set_out A2 n c2 i on w2 (by omega) HIN.out).mono ?_
      rintro e w3 ⟨rfl, hw⟩; subst w3
      go_wp2
      refine wp_loop_rounds 1 ?_
      rw [rounds_succ]
      go_wp2_with fail
      refine (set_out A2 n c2 i on w2 (by omega) HIN.out).mono ?_
      rintro e w3 ⟨rfl, hw⟩; subst w3
      go_wp2
      refine wp_loop_rounds 1 ?_
      rw [rounds_succ]
      go_wp2
      go_ret
      exact ⟨by simp, HB.out⟩
    · obtain ⟨i, rfl⟩ := Int.eq_ofNat_of_zero_le (show 0 ≤ i by omega)
      have hin2 : i < 8 * n := by omega
      clear hin
      obtain ⟨ys, hys⟩ : ∃ ys, ys = Bits.put_at xs i on := ⟨_, rfl⟩
      have hyl : ys.length = n := by rw [hys, Bits.put_at_length]; exact HR.out.1
      have HYL := Lib.hid hyl
      have HYS := Lib.hid hys
      clear hys hyl
      go_wp2_with fail
      refine (set_in A2 n c2 w2.heap.size xs i on w2 (by omega) HR2.out (Nat.le_refl _) hin2).mono ?_
      rintro e w3 ⟨rfl, ho3, hb⟩
      rw [← HYS.out] at ho3
      have HO3 := Lib.hid ho3
      have HG := Lib.hid HB.out.size
      replace HR2 := Lib.hid (bytes_keep HR2.out hb)
      replace HB := Lib.hid (below_on HB.out hb)
      have hsz := hb.size
      clear hb ho3
      generalize w2.heap.size = G at HO3 HG HR2 hsz ⊢
      have hs1 := run_str (P := Try.prog) w3 22 9 5 Try.underlying22 Try.underlying5 Try.underlying9 (c := c2) HR2.out
      have hs2 := run_str (P := Try.prog) w3 22 9 5 Try.underlying22 Try.underlying5 Try.underlying9 (c := c) (bytes_keep HR.out HB.out)
      go_wp2
      clear hs1 hs2
      go_loopw [11] (fun i wr => ∃ k : Nat, k ≤ n ∧ i = .int .i64 k ∧ Own wr G 5 (.slice (some ⟨G, 0, none⟩) n n) (mix ys k) ∧ Below G w3 wr) (fun i _ => n - (intOf i).toNat)
      case atStart => exact ⟨0, by omega, rfl, by rw [mix_zero]; exact HO3.out, Below.refl _ _⟩
      case round =>
        obtain ⟨k, hk, rfl, ho, hb⟩ := hrel
        have HO := Lib.hid ho
        have HBr := Lib.hid hb
        by_cases hlt : k < n
        · obtain ⟨y, hy⟩ : ∃ y, ys[k]? = some y := ⟨_, List.getElem?_eq_getElem (by rw [HYL.out]; exact hlt)⟩
          obtain ⟨hc, hf⟩ := ho.cell (i := k) (by rw [mix_len, HYL.out]; exact hlt)
          have hm := mix_at hy
          rw [List.getElem?_eq_getElem (by rw [mix_len, HYL.out]; exact hlt)] at hm
          injection hm with hm
          rw [hm] at hc
          replace hc : wr.cell? ⟨G, k, none⟩ = some (.int .u8 (y.toNat : Int)) := hc
          have HY := Lib.hid hy
          clear ho hb hm hy
          go_wp2
          go_roundw
          case rel =>
            refine ⟨k + 1, by omega, by go_num, ?_, HBr.out.setCell (Nat.le_refl _) _⟩
            rw [xor_flip, ← mix_next HY.out]
            exact HO.out.set k _
          case measure => simp [intOf]; omega
        · have HK := Lib.hid (show k = n by omega)
          replace HO := Lib.hid (show Own wr G 5 (.slice (some ⟨G, 0, none⟩) n n) (ys.map flip) by
            have h := ho
            rw [HK.out, ← HYL.out, mix_all, HYL.out] at h
            exact h)
          clear ho hb
          have HRg := Lib.hid (bytes_keep HR2.out HBr.out)
          have HBw := Lib.hid (HB.out.trans (HBr.out.mono HG.out))
          have hsz2 : G ≤ wr.heap.size := Nat.le_trans hsz HBr.out.size
          have hs1 := run_str (P := Try.prog) wr 22 9 5 Try.underlying22 Try.underlying5 Try.underlying9 (c := c2) HRg.out
          have hs2 := run_str (P := Try.prog) wr 22 9 5 Try.underlying22 Try.underlying5 Try.underlying9 (c := c) (bytes_keep HR.out HBw.out)
          go_wp2_with fail
          refine (set_in A2 n c2 G xs i on wr (by omega) HRg.out hsz2 hin2).mono ?_
          rintro e w5 ⟨rfl, ho5, hb5⟩
          rw [← HYS.out] at ho5
          have HO5 := Lib.hid ho5
          have HO4 := Lib.hid (HO.out.keep (w' := w5) (fun k hk => hb5.block k (HO.out.lt k hk)))
          have HB5 := Lib.hid (below_on HBw.out hb5)
          clear ho5 hb5 hs1 hs2
          generalize wr.heap.size = D at HO5 ⊢
          go_wp2
          go_loopw [14] (fun i wx => ∃ k : Nat, k ≤ n ∧ i = .int .i64 k ∧ ∃ j, wx = w5.drewN j) (fun i _ => n - (intOf i).toNat)
          case atStart => exact ⟨0, by omega, rfl, 0, rfl⟩
          case round =>
            obtain ⟨q, hq2, rfl, j, rfl⟩ := hrel
            by_cases hlt2 : q < n
            · obtain ⟨y, hy⟩ : ∃ y, ys[q]? = some y := ⟨_, List.getElem?_eq_getElem (by rw [HYL.out]; exact hlt2)⟩
              have hyq : ys[q]'(by rw [HYL.out]; exact hlt2) = y := by
                rw [List.getElem?_eq_getElem (by rw [HYL.out]; exact hlt2)] at hy
                injection hy
              have hc := (HO4.out.cell (i := q) (by rw [List.length_map, HYL.out]; exact hlt2)).1
              rw [List.getElem_map, hyq] at hc
              have hd := (HO5.out.cell (i := q) (by rw [HYL.out]; exact hlt2)).1
              rw [hyq] at hd
              obtain ⟨z, hz⟩ : ∃ z, z = flip y := ⟨_, rfl⟩
              rw [← hz] at hc
              have hxf := xor_flip z
              rw [hz, flip_flip, ← hz] at hxf
              replace hc : w5.cell? ⟨G, q, none⟩ = some (.int .u8 (z.toNat : Int)) := hc
              replace hd : w5.cell? ⟨D, q, none⟩ = some (.int .u8 (y.toNat : Int)) := hd
              have hk1 : (0 : Int) ≤ (q : Int) := by omega
              have hk2 : (q : Int) < (n : Int) := by omega
              clear hy hyq hz
              go_wp2
              go_quiet (fail)
              go_wp2
              go_roundw
              case rel => exact ⟨q + 1, by omega, by go_num, _, rfl⟩
              case measure => simp [intOf]; omega
            · go_wp2
              go_ret
              exact ⟨by simp, below_draws HB5.out _⟩

theorem own : ownKnob Try.prog.godebug = none := by kernel_rfl
theorem laid : laidOutB Try.prog = true := by kernel_rfl
theorem one8 : Try.prog.cellsOf 5 = 1 := by kernel_rfl

set_option maxRecDepth 100000 in
theorem lifted (os : Os) (started : os.Started) (H : Type) (enc : TypeId × Value → H) :
    ReturnsInHanded {} Try.checked os 9 .any (Rows.bitsOwnSpec.pre6 enc Try.prog Try.f9 Rows.bitsOwnRow.domain false) (Rows.bitsOwnSpec.post enc Try.prog Try.f9 false true false false) := by
  refine returnsInHanded_of_change (C := Try.checked) own started (by kernel_rfl) Try.func9
    (ChangeSpec.witness6 (enc := enc) (C := Try.checked) false ⟨#[], #[.slice none 0 0, .int .i64 0, .bool false], []⟩ 8 (by kernel_rfl) (by kernel_rfl) (by kernel_rfl) (by kernel_rfl)) ?_
  intro W base args ds gs before hval0 hW _ _
  have hval : ∀ (j : Nat) t v, Try.f9.params[j]? = some t → args[j]? = some v → Value.okWide Try.prog W .any base t v := hval0
  have hW' := hW
  obtain ⟨p, q, hA0, hV, rfl, hfz, hnd⟩ := hW
  have hA : DataW.TrodAll enc Try.prog W 0 (fun _ => true) true Try.f9.params.toList args.toList ds p := hA0
  rw [Try.params9] at hA hval
  obtain ⟨v0, v1, v2, d0, d1, d2, p0, p1, p2, rfl, rfl, rfl, h0, h1, h2⟩ := trodAll_three hA
  obtain ⟨A0, n0, c0, xs0, rfl, hnc0, hcm0, hr0⟩ := open_bytes Try.underlying22 Try.underlying5 one8 (hval 0 22 v0 rfl rfl) h0
  obtain ⟨a1, rfl, rfl, rfl, wf1⟩ := open_int Try.underlying3 (hval 1 3 v1 rfl rfl) h1
  have hb1 : -9223372036854775808 ≤ a1 ∧ a1 ≤ 9223372036854775807 := by simpa [Lit.wf, IntKind.min, IntKind.max, IntKind.signed, IntKind.bits] using wf1
  obtain ⟨b2, rfl, rfl, rfl⟩ := open_bool Try.underlying4 (hval 2 4 v2 rfl rfl) h2
  refine (walk A0 n0 c0 xs0 a1 b2 W hnc0 hcm0 hr0 hb1.1 hb1.2).mono fun e W' ⟨he, hb⟩ => ?_
  subst he
  exact ⟨_, rfl, Law.post laid (by kernel_rfl) (by kernel_rfl) Try.underlying4 rfl hW' rfl hb⟩

theorem proved : Rows.BitsOwnSaid :=
  OpenClaim.holds_of_wide 9 Try.f9 rfl rfl rfl rfl rfl rfl rfl ⟨rfl, rfl, rfl, rfl, rfl⟩ rfl rfl rfl rfl rfl (by kernel_rfl) Try.func9 (by kernel_rfl)
    (of_decide_eq_true (by kernel_rfl)) (by unfold Func.isWrapper; first | (rw [if_pos (by decide +kernel)]; kernel_rfl) | (rw [if_neg (by decide +kernel)]; exact ⟨rfl, rfl⟩))
    (fun os started H enc _ => lifted os started H enc)

end Go.Proofs.Ytknkeghidhfmmaa.bitsOwn
