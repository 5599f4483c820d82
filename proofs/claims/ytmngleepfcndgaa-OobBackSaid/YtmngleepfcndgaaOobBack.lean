/-
  OobBack: for all metadata and all slices of bytes the law answers true. No condition.
-/
import Derived.Test.YtmngleepfcndgaaOobKit
namespace Go.Proofs.Ytmngleepfcndgaa.oobBack
open Go.ChangeShapes Go.WideShapes Go.ChangeAt Go.RowKit Go.Proofs.Ytmngleepfcndgaa.OobPkg
set_option maxRecDepth 4000

theorem Unpack_full (A A2 : Option Addr) (c c2 : Nat) (k l s : Int) (d : List UInt8) (w : World) (hok : Oob.Ok k l s) (hr : Bytes w w.heap.size A 17 (Oob.full k l s d)) (hr2 : Bytes w w.heap.size A2 16 d) :
    Calls Try.prog 15 #[.slice A 17 c, .slice A2 16 c2] w fun e w' => e = .returned (.tuple #[oob k l s, .int .i64 0]) ∧ Below w.heap.size w w' := by
  have h := Unpack_any A A2 17 c 16 c2 _ d w hr hr2
  rw [Oob.unp_full hok hr2.1] at h
  exact h

theorem Unpack_err {A A2 : Option Addr} {n c m c2 : Nat} {b d : List UInt8} {w : World} (hr : Bytes w w.heap.size A n b) (hr2 : Bytes w w.heap.size A2 m d) {z : Int} (h : Oob.unp b d = (0, 0, 0, z)) :
    Calls Try.prog 15 #[.slice A n c, .slice A2 m c2] w fun e w' => e = .returned (.tuple #[oob 0 0 0, .int .i64 z]) ∧ Below w.heap.size w w' := by
  have h2 := Unpack_any A A2 n c m c2 b d w hr hr2
  rw [h] at h2
  exact h2

/-- The second half: what is unpacked packs to the same bytes. -/
theorem Unpack_was {A A2 : Option Addr} {n c m c2 : Nat} {b d : List UInt8} {w : World} (hr : Bytes w w.heap.size A n b) (hr2 : Bytes w w.heap.size A2 m d) {k l s : Int} (h : Oob.unp b d = (k, l, s, 0)) :
    Calls Try.prog 15 #[.slice A n c, .slice A2 m c2] w fun e w' => e = .returned (.tuple #[oob k l s, .int .i64 0]) ∧ Below w.heap.size w w' := by
  have h2 := Unpack_any A A2 n c m c2 b d w hr hr2
  rw [h] at h2
  exact h2

theorem str_neq (xs : List UInt8) : ((str xs).toList != (str xs).toList) = false := by simp

set_option maxHeartbeats 1000000 in
theorem walk (k l s : Int) (A : Option Addr) (n c : Nat) (d : List UInt8) (A2 : Option Addr) (m c2 : Nat) (b : List UInt8) (w : World) (_hnc : n ≤ c) (_hcm : c ≤ maxLen) (hr : Bytes w w.heap.size A n d) (_hnc2 : m ≤ c2) (_hcm2 : c2 ≤ maxLen) (hr2 : Bytes w w.heap.size A2 m b) :
    Calls Try.prog 5 #[oob k l s, .slice A n c, .slice A2 m c2] w fun e w' => e = .returned (.bool true) ∧ Below w.heap.size w w' := by
  have HB := Lib.hid ((Below.refl w.heap.size w).alloc (Nat.le_refl _) (.cells #[.int .i64 k, .int .i64 l, .int .i64 s] 23))
  have H1 := Lib.hid (Tri.new w k l s)
  have HR := Lib.hid hr
  have HR2 := Lib.hid hr2
  clear hr hr2
  go_enter Try.func5, Try.ntmps5
  go_wp2_with fail
  refine (awake_any _).mono ?_
  rintro e w1 ⟨rfl, hb⟩
  replace HB := Lib.hid (below_on HB.out hb)
  replace H1 := Lib.hid (H1.out.keep hb)
  clear hb
  have c10 := H1.out.c0
  have c11 := H1.out.c1
  have c12 := H1.out.c2
  by_cases ho1 : Oob.Ok k l s ∧ n = 16
  · obtain ⟨ok1, rfl⟩ := ho1
    have OK1 := Lib.hid ok1
    clear ok1
    go_wp2_with fail
    refine (Pack_ok k l s A c d w1 OK1.out (bytes_more (bytes_keep HR.out HB.out) HB.out.size)).mono ?_
    rintro e w2 ⟨A3, rfl, hr3, hb⟩
    replace HB := Lib.hid (below_on HB.out hb)
    replace H1 := Lib.hid (H1.out.keep hb)
    have HR3 := Lib.hid hr3
    clear hb hr3 c10 c11 c12
    go_wp2_with fail
    refine (Unpack_full A3 A 17 c k l s d w2 OK1.out HR3.out (bytes_more (bytes_keep HR.out HB.out) HB.out.size)).mono ?_
    rintro e w3 ⟨rfl, hb⟩
    replace HB := Lib.hid (below_on HB.out hb)
    replace H1 := Lib.hid (H1.out.keep hb)
    have H2 := Lib.hid (Tri.new w3 k l s)
    replace H1 := Lib.hid (H1.out.old (.cells #[.int .i64 k, .int .i64 l, .int .i64 s] 23))
    replace HB := Lib.hid (HB.out.alloc HB.out.size (.cells #[.int .i64 k, .int .i64 l, .int .i64 s] 23))
    clear hb
    have c10 := H1.out.c0
    have c11 := H1.out.c1
    have c12 := H1.out.c2
    rcases Oob.unp_cases b d with h | h | ⟨kk, ll, ss, h, hok2, hdl, hful⟩
    · have HE := Lib.hid h
      clear h
      go_wp2_with fail
      refine (Unpack_err (bytes_more (bytes_keep HR2.out HB.out) HB.out.size) (bytes_more (bytes_keep HR.out HB.out) HB.out.size) HE.out).mono ?_
      rintro e w4 ⟨rfl, hb⟩
      replace HB := Lib.hid (below_on HB.out hb)
      clear hb c10 c11 c12
      go_wp2
      go_ret
      exact ⟨rfl, HB.out.alloc HB.out.size _⟩
    · have HE := Lib.hid h
      clear h
      go_wp2_with fail
      refine (Unpack_err (bytes_more (bytes_keep HR2.out HB.out) HB.out.size) (bytes_more (bytes_keep HR.out HB.out) HB.out.size) HE.out).mono ?_
      rintro e w4 ⟨rfl, hb⟩
      replace HB := Lib.hid (below_on HB.out hb)
      clear hb c10 c11 c12
      go_wp2
      go_ret
      exact ⟨rfl, HB.out.alloc HB.out.size _⟩
    · have HE := Lib.hid h
      have HK := Lib.hid hok2
      have HF := Lib.hid hful
      clear h hok2 hdl hful
      go_wp2_with fail
      refine (Unpack_was (bytes_more (bytes_keep HR2.out HB.out) HB.out.size) (bytes_more (bytes_keep HR.out HB.out) HB.out.size) HE.out).mono ?_
      rintro e w4 ⟨rfl, hb⟩
      replace HB := Lib.hid (below_on HB.out hb)
      clear hb c10 c11 c12
      have HB4 := Lib.hid (HB.out.alloc HB.out.size (.cells #[.int .i64 kk, .int .i64 ll, .int .i64 ss] 23))
      go_wp2_with fail
      refine (Pack_ok kk ll ss A c d _ HK.out (bytes_more (bytes_keep HR.out HB4.out) HB4.out.size)).mono ?_
      rintro e w5 ⟨A5, rfl, hr5, hb⟩
      have HB5 := Lib.hid (below_on HB4.out hb)
      rw [HF.out] at hr5
      have hb17 : m = 17 := by
        have h1 := HR2.out.1
        have h2 := hr5.1
        omega
      have hs1 := run_str (P := Try.prog) w5 24 9 5 Try.underlying24 Try.underlying5 Try.underlying9 (c := 17) hr5
      have hs2 := run_str (P := Try.prog) w5 24 9 5 Try.underlying24 Try.underlying5 Try.underlying9 (c := c2) (bytes_keep HR2.out HB5.out)
      have hq := str_neq b
      clear hr5 hb hb17
      go_wp2
      go_ret
      exact ⟨rfl, HB5.out⟩
  · go_wp2_with fail
    refine (Pack_bad k l s A n c w1 ho1).mono ?_
    rintro e w3 ⟨rfl, hb⟩
    replace HB := Lib.hid (below_on HB.out hb)
    clear hb c10 c11 c12 ho1
    rcases Oob.unp_cases b d with h | h | ⟨kk, ll, ss, h, hok2, hdl, hful⟩
    · have HE := Lib.hid h
      clear h
      go_wp2_with fail
      refine (Unpack_err (bytes_more (bytes_keep HR2.out HB.out) HB.out.size) (bytes_more (bytes_keep HR.out HB.out) HB.out.size) HE.out).mono ?_
      rintro e w4 ⟨rfl, hb⟩
      replace HB := Lib.hid (below_on HB.out hb)
      clear hb
      go_wp2
      go_ret
      exact ⟨rfl, HB.out.alloc HB.out.size _⟩
    · have HE := Lib.hid h
      clear h
      go_wp2_with fail
      refine (Unpack_err (bytes_more (bytes_keep HR2.out HB.out) HB.out.size) (bytes_more (bytes_keep HR.out HB.out) HB.out.size) HE.out).mono ?_
      rintro e w4 ⟨rfl, hb⟩
      replace HB := Lib.hid (below_on HB.out hb)
      clear hb
      go_wp2
      go_ret
      exact ⟨rfl, HB.out.alloc HB.out.size _⟩
    · have HE := Lib.hid h
      have HK := Lib.hid hok2
      have hn16 : n = 16 := HR.out.1.symm.trans hdl
      have HF := Lib.hid hful
      subst hn16
      clear h hok2 hdl hful
      go_wp2_with fail
      refine (Unpack_was (bytes_more (bytes_keep HR2.out HB.out) HB.out.size) (bytes_more (bytes_keep HR.out HB.out) HB.out.size) HE.out).mono ?_
      rintro e w4 ⟨rfl, hb⟩
      replace HB := Lib.hid (below_on HB.out hb)
      clear hb
      have HB4 := Lib.hid (HB.out.alloc HB.out.size (.cells #[.int .i64 kk, .int .i64 ll, .int .i64 ss] 23))
      go_wp2_with fail
      refine (Pack_ok kk ll ss A c d _ HK.out (bytes_more (bytes_keep HR.out HB4.out) HB4.out.size)).mono ?_
      rintro e w5 ⟨A5, rfl, hr5, hb⟩
      have HB5 := Lib.hid (below_on HB4.out hb)
      rw [HF.out] at hr5
      have hb17 : m = 17 := by
        have h1 := HR2.out.1
        have h2 := hr5.1
        omega
      have hs1 := run_str (P := Try.prog) w5 24 9 5 Try.underlying24 Try.underlying5 Try.underlying9 (c := 17) hr5
      have hs2 := run_str (P := Try.prog) w5 24 9 5 Try.underlying24 Try.underlying5 Try.underlying9 (c := c2) (bytes_keep HR2.out HB5.out)
      have hq := str_neq b
      clear hr5 hb hb17
      go_wp2
      go_ret
      exact ⟨rfl, HB5.out⟩

theorem own : ownKnob Try.prog.godebug = none := by kernel_rfl
theorem laid : laidOutB Try.prog = true := by kernel_rfl
theorem one8 : Try.prog.cellsOf 5 = 1 := by kernel_rfl

set_option maxRecDepth 100000 in
theorem lifted (os : Os) (started : os.Started) (H : Type) (enc : TypeId × Value → H) :
    ReturnsInHanded {} Try.checked os 5 .any (Rows.oobBackSpec.pre6 enc Try.prog Try.f5 Rows.oobBackRow.domain false) (Rows.oobBackSpec.post enc Try.prog Try.f5 false true false false) := by
  refine returnsInHanded_of_change (C := Try.checked) own started (by kernel_rfl) Try.func5
    (ChangeSpec.witness6 (enc := enc) (C := Try.checked) false ⟨#[], #[.agg #[.int .i64 0, .int .i64 0, .int .i64 0], .slice none 0 0, .slice none 0 0], []⟩ 8 (by kernel_rfl) (by kernel_rfl) (by kernel_rfl) (by kernel_rfl)) ?_
  intro W base args ds gs before hval0 hW _ _
  have hval : ∀ (j : Nat) t v, Try.f5.params[j]? = some t → args[j]? = some v → Value.okWide Try.prog W .any base t v := hval0
  have hW' := hW
  obtain ⟨p, q, hA0, hV, rfl, hfz, hnd⟩ := hW
  have hA : DataW.TrodAll enc Try.prog W 0 (fun _ => true) true Try.f5.params.toList args.toList ds p := hA0
  rw [Try.params5] at hA hval
  obtain ⟨v0, v1, v2, d0, d1, d2, p0, p1, p2, rfl, rfl, rfl, h0, h1, h2⟩ := trodAll_three hA
  obtain ⟨k0, l0, s0, rfl⟩ := open_oob Try.underlying23 rfl (by kernel_rfl) (by kernel_rfl) (hval 0 23 v0 rfl rfl) h0
  obtain ⟨A1, n1, c1, xs1, rfl, hnc1, hcm1, hr1⟩ := open_bytes Try.underlying24 Try.underlying5 one8 (hval 1 24 v1 rfl rfl) h1
  obtain ⟨A2, n2, c2, xs2, rfl, hnc2, hcm2, hr2⟩ := open_bytes Try.underlying24 Try.underlying5 one8 (hval 2 24 v2 rfl rfl) h2
  refine (walk k0 l0 s0 A1 n1 c1 xs1 A2 n2 c2 xs2 W hnc1 hcm1 hr1 hnc2 hcm2 hr2).mono fun e W' ⟨he, hb⟩ => ?_
  subst he
  exact ⟨_, rfl, Law.post laid (by kernel_rfl) (by kernel_rfl) Try.underlying4 rfl hW' rfl hb⟩

theorem proved : Rows.OobBackSaid :=
  OpenClaim.holds_of_wide 5 Try.f5 rfl rfl rfl rfl rfl rfl rfl ⟨rfl, rfl, rfl, rfl, rfl⟩ rfl rfl rfl rfl rfl (by kernel_rfl) Try.func5 (by kernel_rfl)
    (of_decide_eq_true (by kernel_rfl)) (by unfold Func.isWrapper; first | (rw [if_pos (by decide +kernel)]; kernel_rfl) | (rw [if_neg (by decide +kernel)]; exact ⟨rfl, rfl⟩))
    (fun os started H enc _ => lifted os started H enc)

end Go.Proofs.Ytmngleepfcndgaa.oobBack
