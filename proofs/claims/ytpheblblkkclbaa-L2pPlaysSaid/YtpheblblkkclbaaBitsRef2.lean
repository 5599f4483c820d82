/-
  The document's answer of layer 4, the third part: a bitmap told, the bits that are on, the first one from a place on.
-/
import Derived.Test.YtpheblblkkclbaaBitsRef
namespace Go.Proofs.Ytpheblblkkclbaa.BitsPkg
open Go.RowKit
set_option maxRecDepth 4000

set_option maxHeartbeats 1000000 in
theorem ref_list (A : Option Addr) (n c B : Nat) (xs : List UInt8) (w : World) (hn : n ≤ 1000000000) (hr : Bytes w B A n xs) (hB : B ≤ w.heap.size) :
    Calls Try.prog 79 #[.slice A n c] w fun e w' => ∃ v, e = .returned v ∧ OwnI w' w.heap.size 3 v (Bits.ons xs (8 * n)) ∧ Below w.heap.size w w' := by
  have HR := Lib.hid (bytes_more hr hB)
  clear hr
  go_enter Try.func79, Try.ntmps79
  go_wp2
  go_loopw [3, 4] (fun v i wr => ∃ k : Nat, k ≤ 8 * n ∧ i = .int .i64 k ∧ OwnI wr w.heap.size 3 v (Bits.ons xs k) ∧ Below w.heap.size w wr) (fun _ i _ => 8 * n - (intOf i).toNat)
  case atStart => exact ⟨0, by omega, rfl, ownI_nil _ _ _, Below.refl _ _⟩
  case round =>
    obtain ⟨k, hk, rfl, ho, hb⟩ := hrel
    obtain ⟨zs, hzs⟩ : ∃ zs, zs = Bits.ons xs k := ⟨_, rfl⟩
    have hla := Bits.ons_len xs k
    rw [← hzs] at ho hla
    obtain ⟨A2, m2, c2, rfl⟩ := ho.form
    have hml : zs.length ≤ 1000000000000 := by omega
    have HO := Lib.hid ho
    have HB := Lib.hid hb
    have HZ := Lib.hid hzs
    clear ho hb hzs
    by_cases hlt : k < 8 * n
    · have hlt2 : (k : Int) < 8 * (n : Int) := by omega
      obtain ⟨t, ht⟩ : ∃ t, t = Bits.get xs (k : Int) := ⟨_, rfl⟩
      have HG := Lib.hid ht
      clear ht
      go_wp2_with fail
      refine (ref_get A n c w.heap.size xs (k : Int) wr (by omega) (by omega) (bytes_keep HR.out HB.out)).mono ?_
      rintro e w3 ⟨rfl, hb⟩
      rw [← HG.out]
      replace HO := Lib.hid (HO.out.below hb)
      replace HB := Lib.hid (below_on HB.out hb)
      clear hb
      cases t
      · go_wp2
        go_roundw
        case rel =>
          refine ⟨k + 1, by omega, by go_num, ?_, HB.out⟩
          rw [Bits.ons_off (by rw [← Bits.get_nat]; exact HG.out.symm), ← HZ.out]
          exact HO.out
        case measure => simp [intOf]; omega
      · go_wp2_with (at_builtin; refine wpList_append_int w3 rfl _ _ _ rfl w.heap.size 3 Try.underlying54 infoI (.slice A2 m2 c2) zs rfl HO.out (k : Int) rfl hml HB.out.size ?_)
        intro v3 w4 ho3 hg3
        have HB3 := Lib.hid ((HB.out.alloc HB.out.size _).grown hg3 (by have := HB.out.size; simp; omega) HO.out.block)
        have HO3 := Lib.hid ho3
        clear ho3 hg3
        go_wp2
        go_roundw
        case rel =>
          refine ⟨k + 1, by omega, by go_num, ?_, HB3.out⟩
          rw [Bits.ons_on (by rw [← Bits.get_nat]; exact HG.out.symm), ← HZ.out]
          exact HO3.out
        case measure => simp [intOf]; omega
    · have hlt2 : ¬ (k : Int) < 8 * (n : Int) := by omega
      have HK := Lib.hid (show k = 8 * n by omega)
      go_wp2
      go_ret
      exact ⟨_, rfl, by rw [← HK.out, ← HZ.out]; exact HO.out, HB.out⟩

theorem ref_count (A : Option Addr) (n c B : Nat) (xs : List UInt8) (w : World) (hn : n ≤ 1000000000) (hr : Bytes w B A n xs) (hB : B ≤ w.heap.size) :
    Calls Try.prog 71 #[.slice A n c] w fun e w' => e = .returned (.int .i64 ((Bits.ons xs (8 * n)).length : Int)) ∧ Below w.heap.size w w' := by
  have HR := Lib.hid hr
  clear hr
  go_enter Try.func71, Try.ntmps71
  go_wp2_with fail
  refine (ref_list A n c B xs w hn HR.out hB).mono ?_
  rintro e w2 ⟨v2, rfl, ho, hb⟩
  obtain ⟨A2, c2, rfl, _, _, _⟩ := ho.reads (fun z hz => by have := Bits.ons_bd z hz; omega)
  have HB := Lib.hid hb
  clear ho hb
  obtain ⟨m, hm⟩ : ∃ m, m = (Bits.ons xs (8 * n)).length := ⟨_, rfl⟩
  rw [← hm]
  have HM := Lib.hid hm
  clear hm
  go_wp2
  go_ret
  exact ⟨by rw [← HM.out]; rfl, HB.out⟩

end Go.Proofs.Ytpheblblkkclbaa.BitsPkg
