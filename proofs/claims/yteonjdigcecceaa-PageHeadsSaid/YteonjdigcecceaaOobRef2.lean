/-
  The document's own answer for layer 5, the second part: Pack.
-/
import Derived.Test.YteonjdigcecceaaOobRef
namespace Go.Proofs.Yteonjdigcecceaa.OobPkg
open Go.RowKit
set_option maxRecDepth 4000

theorem rPack_bad (k l s : Int) (A : Option Addr) (n c : Nat) (w : World) (h : ¬ (Oob.Ok k l s ∧ n = 16)) :
    Calls Try.prog 25 #[oob k l s, .slice A n c] w fun e w' => e = .returned (.tuple #[.slice none 0 0, .int .i64 1]) ∧ Below w.heap.size w w' := by
  have HB := Lib.hid ((Below.refl w.heap.size w).alloc (Nat.le_refl _) (.cells #[.int .i64 k, .int .i64 l, .int .i64 s] 44))
  have hr := fun w => rright_any k l s w
  by_cases hok : Oob.Ok k l s
  · simp only [decide_eq_true hok] at hr
    have HRR := Lib.hid hr
    have hn : ¬ (n : Int) = 16 := fun e => h ⟨hok, by omega⟩
    clear hr h hok
    go_enter Try.func25, Try.ntmps25
    go_wp2_with fail
    refine (HRR.out _).mono ?_
    rintro e w2 ⟨rfl, hb⟩
    have HB2 := Lib.hid (below_on HB.out hb)
    clear hb
    go_wp2
    go_ret2
    exact ⟨rfl, HB2.out⟩
  · simp only [decide_eq_false hok] at hr
    have HRR := Lib.hid hr
    clear hr h hok
    go_enter Try.func25, Try.ntmps25
    go_wp2_with fail
    refine (HRR.out _).mono ?_
    rintro e w2 ⟨rfl, hb⟩
    have HB2 := Lib.hid (below_on HB.out hb)
    clear hb
    go_wp2
    go_ret2
    exact ⟨rfl, HB2.out⟩

set_option maxHeartbeats 1000000 in
theorem rPack_ok (k l s : Int) (A : Option Addr) (c : Nat) (d : List UInt8) (w : World) (hok : Oob.Ok k l s) (hr : Bytes w w.heap.size A 16 d) :
    Calls Try.prog 25 #[oob k l s, .slice A 16 c] w fun e w' => ∃ v, e = .returned (.tuple #[v, .int .i64 0]) ∧ Own w' w.heap.size 5 v (Oob.full k l s d) ∧ Below w.heap.size w w' := by
  have HB := Lib.hid ((Below.refl w.heap.size w).alloc (Nat.le_refl _) (.cells #[.int .i64 k, .int .i64 l, .int .i64 s] 44))
  have H1 := Lib.hid (Tri.new w k l s)
  have hrr := fun w => rright_any k l s w
  simp only [decide_eq_true hok] at hrr
  have HRR := Lib.hid hrr
  have HOK := Lib.hid hok
  have HR := Lib.hid hr
  clear hrr hok hr
  go_enter Try.func25, Try.ntmps25
  go_wp2_with fail
  refine (HRR.out _).mono ?_
  rintro e w2 ⟨rfl, hb⟩
  replace HB := Lib.hid (below_on HB.out hb)
  replace H1 := Lib.hid (H1.out.keep hb)
  clear hb
  have c10 := H1.out.c0
  have c11 := H1.out.c1
  have c12 := H1.out.c2
  go_wp2_with fail
  refine (rfront_any k l s w2 HOK.out).mono ?_
  rintro e w3 ⟨v3, rfl, ho3, hb⟩
  have hGb : w.heap.size ≤ w2.heap.size := HB.out.size
  replace HB := Lib.hid (below_on HB.out hb)
  have hG3 : w2.heap.size ≤ w3.heap.size := hb.size
  obtain ⟨f, hf⟩ : ∃ f, f = Oob.front k l s := ⟨_, rfl⟩
  rw [← hf] at ho3
  have hfl : f.length = 13 := by rw [hf]; rfl
  obtain ⟨A3, c3, rfl, hr3⟩ := ho3.reads
  rw [hfl] at ho3 hr3 ⊢
  have HR3 := Lib.hid hr3
  have HO3 := Lib.hid ho3
  have HF := Lib.hid hf
  have HFL := Lib.hid hfl
  clear hb c10 c11 c12 H1 hf hfl ho3 hr3
  have HL1 := Lib.hid (show ([] : List UInt8).length + 13 ≤ 140737488355328 by show 0 + _ ≤ _; omega)
  have HBa := Lib.hid ((Below.refl w3.heap.size w3).alloc (Nat.le_refl _) (.cells #[] 5))
  go_wp2_with (at_builtin; refine wpList_append_bytes _ rfl _ _ _ rfl w3.heap.size 5 Try.underlying40 info8 _ [] rfl (own_new w3 5 [] _ rfl (Nat.zero_le _)) w3.heap.size A3 13 c3 f rfl (bytes_keep HR3.out HBa.out) HL1.out HBa.out.size ?_)
  intro va wa hoa hga _
  have HBb := Lib.hid (HBa.out.grown hga HBa.out.size (fun k hk => by simp [Value.ownBlock] at hk; omega))
  have HOa := Lib.hid hoa
  have HL2 := Lib.hid (show (([] : List UInt8) ++ f).length + 16 ≤ 140737488355328 by have := (HR3.out).1; simp; omega)
  clear hoa hga HBa HL1
  go_wp2_with (at_builtin; refine wpList_append_bytes _ rfl _ _ _ rfl w3.heap.size 5 Try.underlying40 info8 va (([] : List UInt8) ++ f) rfl HOa.out w3.heap.size A 16 c d rfl (bytes_keep (bytes_more (bytes_keep HR.out HB.out) HB.out.size) HBb.out) HL2.out HBb.out.size ?_)
  intro vb wb hob hgb _
  have HBd := Lib.hid (HBb.out.grown hgb HBb.out.size HOa.out.block)
  obtain ⟨y1, hy1⟩ : ∃ y, y = f ++ d := ⟨_, rfl⟩
  replace hob : Own wb w3.heap.size 5 vb y1 := by rw [hy1]; exact hob
  obtain ⟨A4, c4, rfl, hrb⟩ := hob.reads
  obtain ⟨N1, hN1⟩ : ∃ N, N = y1.length := ⟨_, rfl⟩
  rw [← hN1] at hrb ⊢
  have Hy1 := Lib.hid hy1
  have HN1 := Lib.hid hN1
  have HRb := Lib.hid hrb
  clear hob hgb HBb HOa HL2 hrb hy1 hN1
  have hN : N1 = 29 := by
    have h2 := HR.out.1
    have h3 := HFL.out
    rw [HN1.out, Hy1.out, List.length_append]
    omega
  subst hN
  replace HO3 := Lib.hid (HO3.out.keep (w' := wb) (fun k hk => HBd.out.block k (HO3.out.lt k hk)))
  replace HB := Lib.hid (HB.out.trans (HBd.out.mono HB.out.size))
  have hGd : w2.heap.size ≤ wb.heap.size := Nat.le_trans hG3 HBd.out.size
  clear HBd
  have hsum : addI 0 y1 = (Oob.sumN y1 : Int) := rfl
  obtain ⟨sm, hsm⟩ : ∃ sm : Int, sm = (Oob.sumN y1 : Int) := ⟨_, rfl⟩
  have hsm0 : 0 ≤ sm := by omega
  have hsm1 : sm ≤ 4294967295 := by have := Oob.sumN_lt y1; omega
  have hs := rsum_any A4 29 c4 _ y1 wb (by decide) HRb.out
  rw [hsum, ← hsm] at hs
  have HS := Lib.hid hs
  have HSM := Lib.hid hsm
  clear hs hsm hsum
  go_wp2_with fail
  refine HS.out.mono ?_
  rintro e w5 ⟨rfl, hw⟩; subst w5
  go_wp2_with fail
  refine (rfixed_is sm _ hsm0 hsm1).mono ?_
  rintro e w6 ⟨A6, c6, rfl, hr6, hb⟩
  have HO6 := Lib.hid (HO3.out.keep (w' := w6) (fun k hk => hb.block k (HO3.out.lt k hk)))
  have HB6 := Lib.hid (below_on HB.out hb)
  have HR6 := Lib.hid hr6
  have hG6 : w2.heap.size ≤ w6.heap.size := Nat.le_trans hGd hb.size
  have HL6 := Lib.hid (show f.length + 4 ≤ 140737488355328 by have := HFL.out; omega)
  clear hr6 hb HRb
  go_wp2_with (at_builtin; refine wpList_append_bytes _ rfl _ _ _ rfl w2.heap.size 5 Try.underlying40 info8 (.slice A3 13 c3) f rfl HO6.out w6.heap.size A6 4 c6 (Wire.fx sm.toNat) rfl HR6.out HL6.out hG6 ?_)
  intro v7 w7 ho7 hg7 _
  have hbk := (Below.refl w2.heap.size w6).grown hg7 hG6 HO6.out.block
  have HB7 := Lib.hid (HB6.out.trans (hbk.mono hGb))
  have HO7 := Lib.hid (show Own w7 w.heap.size 5 v7 (Oob.full k l s d) by
    have h := ho7.le hGb
    rw [HF.out, HSM.out, Hy1.out, HF.out, Int.toNat_natCast] at h
    exact h)
  clear ho7 hg7 hbk HO6 HR6 HL6
  go_wp2
  go_ret2
  exact ⟨_, rfl, HO7.out, HB7.out⟩

end Go.Proofs.Yteonjdigcecceaa.OobPkg
