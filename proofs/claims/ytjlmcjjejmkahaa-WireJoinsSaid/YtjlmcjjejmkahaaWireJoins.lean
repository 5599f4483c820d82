/-
  WireJoins: for every slice of ints and every slice of bytes the law answers true, and they read afterwards as they read before. No condition.
-/
import Derived.Test.YtjlmcjjejmkahaaWireKit
namespace Go.Proofs.Ytjlmcjjejmkahaa.wireJoins
open Go.ChangeShapes Go.WideShapes Go.ChangeAt Go.RowKit
set_option maxRecDepth 4000

theorem codes_drop {zs : List Int} {k : Nat} {z : Int} (h : zs[k]? = some z) : Wire.codes (zs.drop k) = (if z < 0 then [] else Wire.code z.toNat) ++ Wire.codes (zs.drop (k + 1)) := by
  obtain ⟨hl, rfl⟩ := List.getElem?_eq_some_iff.1 h
  rw [List.drop_eq_getElem_cons hl, Wire.codes]

/-- What is left of a slice of bytes from k on. -/
theorem bytes_drop {w : World} {B : Nat} {A : Option Addr} {n : Nat} {xs : List UInt8} (h : Bytes w B A n xs) {k cap : Nat} (hk : k ≤ n) (hn : n ≤ cap) :
    Bytes w B (if cap = k then A else A.map (·.add k)) (n - k) (xs.drop k) := by
  have hp := bytes_part h (k := k) (m := n - k) (cap := cap) (by omega) hn
  rwa [List.take_of_length_le (by rw [List.length_drop, h.1]; exact Nat.le_refl _)] at hp

set_option maxHeartbeats 2000000 in
theorem walk (A : Option Addr) (n c : Nat) (zs : List Int) (A' : Option Addr) (n' c' : Nat) (ys : List UInt8) (w : World) (hnc : n ≤ c) (hcm : c ≤ maxLen) (hr : Nums w w.heap.size A n zs) (hnc' : n' ≤ c') (hcm' : c' ≤ maxLen) (hr' : Bytes w w.heap.size A' n' ys) :
    Calls Try.prog 10 #[.slice A n c, .slice A' n' c'] w fun e w' => e = .returned (.bool true) ∧ Below w.heap.size w w' := by
  have HR := Lib.hid hr
  have HR' := Lib.hid hr'
  clear hr hr'
  have hn := Nat.le_trans hnc hcm
  have hn' := Nat.le_trans hnc' hcm'
  unfold maxLen at hn hn' hcm hcm'
  go_enter Try.func10, Try.ntmps10
  go_wp2_with fail
  refine (awake_any _).mono ?_
  rintro e w1 ⟨rfl, hb⟩
  have HR1 := Lib.hid (nums_more (nums_keep HR.out hb) hb.size)
  have HR1' := Lib.hid (bytes_more (bytes_keep HR'.out hb) hb.size)
  have HB := Lib.hid hb
  have hsz := hb.size
  clear hb
  by_cases hl : 300 < n
  · go_wp2
    go_ret
    exact ⟨rfl, HB.out⟩
  · by_cases hl' : 1000 < n'
    · go_wp2
      go_ret
      exact ⟨rfl, HB.out⟩
    · go_wp2_with fail
      refine (number_any A n c w1.heap.size zs w1 (by omega) HR1.out (Nat.le_refl _)).mono ?_
      rintro e w2 ⟨v2, rfl, ho2, hb2⟩
      have HO2 := Lib.hid ho2
      have HB2 := Lib.hid hb2
      have hsz2 := hb2.size
      have hlen : (Wire.codes zs).length + n' ≤ 140737488355328 := by have h := Wire.codes_len zs (nums_le HR.out); rw [HR.out.1] at h; omega
      clear ho2 hb2
      go_wp2_with (at_builtin; refine wpList_append_bytes _ rfl _ _ _ rfl w1.heap.size 5 Try.underlying24 info8 _ (Wire.codes zs) rfl HO2.out w1.heap.size A' n' c' ys rfl (bytes_keep HR1'.out HB2.out) hlen hsz2 ?_)
      intro v3 w3 ho3 hg3 _
      have HB3 := Lib.hid (HB2.out.grown hg3 hsz2 HO2.out.block)
      have HO3 := Lib.hid ho3
      clear ho3 hg3 HO2 HB2 hlen
      have HN3 := Lib.hid (nums_keep HR1.out HB3.out)
      go_wp2
      go_loop [6, 7] (fun v i => ∃ (k l cc : Nat) (B : Option Addr), k ≤ n ∧ i = .int .i64 k ∧ v = .slice B l cc ∧ l ≤ cc ∧ cc ≤ maxLen ∧ Bytes w3 w3.heap.size B l (Wire.codes (zs.drop k) ++ ys)) (fun _ i => n - (intOf i).toNat)
      case atStart =>
        obtain ⟨A3, c3, rfl, hc3, hm3, hr3⟩ := HO3.out.readsc
        exact ⟨0, _, c3, A3, by omega, rfl, rfl, hc3, hm3, hr3⟩
      case round =>
        obtain ⟨k, l, cc, B, hk, rfl, rfl, hlc, hcm3, hr3⟩ := hrel
        have HR3 := Lib.hid hr3
        have HM := Lib.hid hcm3
        unfold maxLen at hcm3
        clear hr3
        by_cases hlt : k < n
        · obtain ⟨b, off, z, rfl, hbB, hx, hc, hz1, hz2⟩ := HN3.out.at_ hlt
          have HX := Lib.hid (codes_drop hx)
          clear hx
          by_cases hz : z < 0
          · have HR4 : Hid (Bytes w3 w3.heap.size B l (Wire.codes (zs.drop (k + 1)) ++ ys)) := by have h := HR3.out; rw [HX.out, if_pos hz, List.nil_append] at h; exact Lib.hid h
            go_wp2
            go_round
            case rel => exact ⟨k + 1, l, cc, B, by omega, by go_num, rfl, hlc, HM.out, HR4.out⟩
            case measure => simp [intOf]; omega
          · obtain ⟨m, rfl⟩ := Int.eq_ofNat_of_zero_le (show 0 ≤ z by omega)
            have hc9 := Wire.code_len9 m (by omega)
            have hc1 := Wire.code_pos m
            have HE : Hid (Wire.codes (zs.drop k) ++ ys = Wire.code m ++ (Wire.codes (zs.drop (k + 1)) ++ ys)) := by rw [HX.out, if_neg hz, Int.toNat_natCast, List.append_assoc]; exact Lib.hid rfl
            have hle : (Wire.code m).length ≤ l := by have h := HR3.out.1; rw [HE.out, List.length_append] at h; omega
            have HT := Lib.hid (tn_some (Wire.takes_code m (by omega) (Wire.codes (zs.drop (k + 1)) ++ ys)))
            rw [← HE.out] at HT
            have hd := bytes_drop HR3.out (k := (Wire.code m).length) (cap := cc) hle hlc
            rw [HE.out, List.drop_left] at hd
            have HD := Lib.hid hd
            clear hd HE HX
            generalize Wire.codes (zs.drop k) ++ ys = L1 at HT HR3
            generalize Wire.code m = cm at hc9 hc1 hle HT HD
            generalize cm.length = q at hc9 hc1 hle HT HD
            have HK := Lib.hid (takeNumber_any B l cc w3.heap.size L1 w3 (Nat.le_trans hlc HM.out) HR3.out)
            rw [HT.out] at HK
            rcases Decidable.em (q = cc) with rfl | hcf
            · rw [if_pos rfl, show l - q = 0 by omega] at HD
              go_wp2_with fail
              refine HK.out.mono ?_
              rintro e w4 ⟨rfl, rfl⟩
              go_wp2
              go_round
              case rel => exact ⟨k + 1, 0, 0, B, by omega, by go_num, rfl, Nat.le_refl _, Nat.zero_le _, HD.out⟩
              case measure => simp [intOf]; omega
            · rw [if_neg (fun e => hcf e.symm)] at HD
              go_wp2_with fail
              refine HK.out.mono ?_
              rintro e w4 ⟨rfl, rfl⟩
              go_wp2
              go_round
              case rel => exact ⟨k + 1, l - q, _, _, by omega, by go_num, rfl, by omega, by unfold maxLen; omega, HD.out⟩
              case measure => simp [intOf]; omega
        · obtain rfl : k = n := by omega
          have HR4 : Hid (Bytes w3 w3.heap.size B l ys) := by have h := HR3.out; rw [List.drop_of_length_le (by rw [HR.out.1]; exact Nat.le_refl _)] at h; exact Lib.hid h
          have hs1 := run_str (P := Try.prog) w3 24 9 5 Try.underlying24 Try.underlying5 Try.underlying9 (c := cc) HR4.out
          have hs2 := run_str (P := Try.prog) w3 24 9 5 Try.underlying24 Try.underlying5 Try.underlying9 (c := c') (bytes_keep HR1'.out HB3.out)
          go_wp2
          go_ret
          exact ⟨by simp, HB.out.trans (HB3.out.mono hsz)⟩

theorem own : ownKnob Try.prog.godebug = none := by kernel_rfl
theorem laid : laidOutB Try.prog = true := by kernel_rfl
theorem one8 : Try.prog.cellsOf 5 = 1 := by kernel_rfl
theorem one64 : Try.prog.cellsOf 3 = 1 := by kernel_rfl

set_option maxRecDepth 100000 in
theorem lifted (os : Os) (started : os.Started) (H : Type) (enc : TypeId × Value → H) :
    ReturnsInHanded {} Try.checked os 10 .any (Rows.wireJoinsSpec.pre6 enc Try.prog Try.f10 Rows.wireJoinsRow.domain false) (Rows.wireJoinsSpec.post enc Try.prog Try.f10 false true false false) := by
  refine returnsInHanded_of_change (C := Try.checked) own started (by kernel_rfl) Try.func10
    (ChangeSpec.witness6 (enc := enc) (C := Try.checked) false ⟨#[], #[.slice none 0 0, .slice none 0 0], []⟩ 8 (by kernel_rfl) (by kernel_rfl) (by kernel_rfl) (by kernel_rfl)) ?_
  intro W base args ds gs before hval0 hW _ _
  have hval : ∀ (j : Nat) t v, Try.f10.params[j]? = some t → args[j]? = some v → Value.okWide Try.prog W .any base t v := hval0
  have hW' := hW
  obtain ⟨p, q, hA0, hV, rfl, hfz, hnd⟩ := hW
  have hA : DataW.TrodAll enc Try.prog W 0 (fun _ => true) true Try.f10.params.toList args.toList ds p := hA0
  rw [Try.params10] at hA hval
  obtain ⟨v0, v1, d0, d1, p0, p1, rfl, rfl, rfl, h0, h1⟩ := trodAll_two hA
  obtain ⟨A0, n0, c0, zs0, rfl, hnc0, hcm0, hr0⟩ := open_nums Try.underlying22 Try.underlying3 one64 (hval 0 22 v0 rfl rfl) h0
  obtain ⟨A1, n1, c1, xs1, rfl, hnc1, hcm1, hr1⟩ := open_bytes Try.underlying24 Try.underlying5 one8 (hval 1 24 v1 rfl rfl) h1
  refine (walk A0 n0 c0 zs0 A1 n1 c1 xs1 W hnc0 hcm0 hr0 hnc1 hcm1 hr1).mono fun e W' ⟨he, hb⟩ => ?_
  subst he
  exact ⟨_, rfl, Law.post laid (by kernel_rfl) (by kernel_rfl) Try.underlying4 rfl hW' rfl hb⟩

theorem proved : Rows.WireJoinsSaid :=
  OpenClaim.holds_of_wide 10 Try.f10 rfl rfl rfl rfl rfl rfl rfl ⟨rfl, rfl, rfl, rfl, rfl⟩ rfl rfl rfl rfl rfl (by kernel_rfl) Try.func10 (by kernel_rfl)
    (of_decide_eq_true (by kernel_rfl)) (by unfold Func.isWrapper; first | (rw [if_pos (by decide +kernel)]; kernel_rfl) | (rw [if_neg (by decide +kernel)]; exact ⟨rfl, rfl⟩))
    (fun os started H enc _ => lifted os started H enc)

end Go.Proofs.Ytjlmcjjejmkahaa.wireJoins
