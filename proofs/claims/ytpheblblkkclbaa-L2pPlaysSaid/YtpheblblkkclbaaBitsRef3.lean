/-
  The document's answer of layer 4, the fourth part: a bit set.
-/
import Derived.Test.YtpheblblkkclbaaBitsRef
namespace Go.Proofs.Ytpheblblkkclbaa.BitsPkg
open Go.RowKit
set_option maxRecDepth 4000

theorem sub_worth (x : UInt8) (i : Nat) (h : x.toNat.testBit (i % 8) = true) : (x.toNat : Int) - (Bits.worth i : Int) = ((Bits.put x (i % 8) false).toNat : Int) ∧ Bits.worth i ≤ x.toNat := by
  have ht := (Bits.tests ⟨x.toNat, x.toNat_lt⟩ ⟨i % 8, by omega⟩).2.2.2.2.2 h
  simp only at ht
  rw [Bits.put_toNat _ (by omega), h, if_neg (by simp), if_neg (by simp), show Bits.worth i = 2 ^ (i % 8) from rfl]
  omega

theorem add_worth (x : UInt8) (i : Nat) (h : x.toNat.testBit (i % 8) = false) : (x.toNat : Int) + (Bits.worth i : Int) = ((Bits.put x (i % 8) true).toNat : Int) ∧ x.toNat + Bits.worth i < 256 := by
  have ht := (Bits.tests ⟨x.toNat, x.toNat_lt⟩ ⟨i % 8, by omega⟩).2.2.2.2.1 h
  simp only at ht
  rw [Bits.put_toNat _ (by omega), h, if_neg (by simp), if_pos rfl, show Bits.worth i = 2 ^ (i % 8) from rfl]
  omega

theorem put_at_none {xs : List UInt8} {i : Nat} (on : Bool) (h : i / 8 < xs.length) (hb : Bits.bit xs i = on) : Bits.put_at xs i on = xs := by
  have h2 : xs[i / 8]? = some (xs[i / 8]) := List.getElem?_eq_getElem h
  rw [Bits.bit_at h2] at hb
  rw [Bits.put_at_eq h2]
  have e : Bits.put xs[i / 8] (i % 8) on = xs[i / 8] := by
    apply UInt8.toNat_inj.1
    rw [Bits.put_toNat _ (by omega), if_pos hb]
  rw [e]
  simp

theorem ref_set_out (A : Option Addr) (n c : Nat) (i : Int) (on : Bool) (w : World) (hn : n ≤ 1000000000000) (hi1 : i ≤ 9223372036854775807) (h : i < 0 ∨ 8 * (n : Int) ≤ i) :
    Calls Try.prog 39 #[.slice A n c, .int .i64 i, .bool on] w fun e w' => e = .returned (.tuple #[.slice none 0 0, .bool false]) ∧ w' = w := by
  rcases h with h | h
  · go_enter Try.func39, Try.ntmps39
    go_wp2
    go_ret2
    exact ⟨rfl, rfl⟩
  · have h0 : ¬ i < 0 := by omega
    have h1 : (n : Int) ≤ i / 8 := by omega
    go_enter Try.func39, Try.ntmps39
    go_wp2
    go_ret2
    exact ⟨rfl, rfl⟩

set_option maxHeartbeats 2000000 in
theorem ref_set_in (A : Option Addr) (n c B : Nat) (xs : List UInt8) (i : Nat) (on : Bool) (w : World) (hn : n ≤ 1000000000) (hr : Bytes w B A n xs) (hB : B ≤ w.heap.size) (h1 : i < 8 * n) :
    Calls Try.prog 39 #[.slice A n c, .int .i64 (i : Int), .bool on] w fun e w' => ∃ v, e = .returned (.tuple #[v, .bool true]) ∧ Own w' w.heap.size 5 v (Bits.put_at xs i on) ∧ Below w.heap.size w w' := by
  obtain ⟨b, off, x, rfl, hb, hx, hc⟩ := hr.at_ (show i / 8 < n by omega)
  have hl := hr.1
  have HN := Lib.hid (fun on hb => put_at_none (xs := xs) (i := i) on (by omega) hb)
  have hbit := Bits.bit_at hx
  obtain ⟨p, hp⟩ : ∃ p, p = Bits.worth i := ⟨_, rfl⟩
  have hwo := fun w => worth_any i (by omega) w
  have hp1 := Bits.worth_bd i
  have hsub := sub_worth x i
  have hadd := add_worth x i
  rw [← hbit, ← hp] at hsub hadd
  rw [← hp] at hwo hp1
  have HX := Lib.hid hx
  have HR := Lib.hid (bytes_more hr hB)
  have HWO := Lib.hid hwo
  have HPE := Lib.hid (Bits.put_at_eq hx)
  have hx8 := u8_bd x
  have hlt : ((i / 8 : Nat) : Int) < (n : Int) := by omega
  have hlt2 : (i : Int) / 8 < (n : Int) := by omega
  have htn : ((i : Int) / 8).toNat = i / 8 := by omega
  have hwr : IntKind.i64.wrap ((i : Int) / 8) = ((i / 8 : Nat) : Int) := by rw [IntKind.wrap_i64]; omega
  obtain ⟨t, ht⟩ : ∃ t, t = Bits.bit xs i := ⟨_, rfl⟩
  rw [← ht] at hsub hadd
  have HT := Lib.hid ht
  have HG := Lib.hid (show Bits.get xs (i : Int) = t by rw [Bits.get_nat, ht])
  have hlen : ([] : List UInt8).length + n ≤ 140737488355328 := by simp; omega
  clear hr hx hc hp hwo ht hbit
  go_enter Try.func39, Try.ntmps39
  go_wp2_with (at_builtin; refine wpList_append_bytes _ rfl _ _ _ rfl w.heap.size 5 Try.underlying35 info8 _ [] rfl (own_new w 5 [] _ rfl (Nat.zero_le _)) w.heap.size (some ⟨b, off, none⟩) n c xs rfl (bytes_keep HR.out ((Below.refl w.heap.size w).alloc (Nat.le_refl _) _)) hlen (by simp) ?_)
  intro v2 w2 ho2 hg2 _
  have HB := Lib.hid (((Below.refl w.heap.size w).alloc (Nat.le_refl _) _).grown hg2 (by simp) (fun k hk => by simp [Value.ownBlock] at hk; omega))
  obtain ⟨g, cap, rfl, hg, hcap, hcap2⟩ := ho2.form (by omega)
  rw [hl] at ho2 hcap ⊢
  have HO := Lib.hid ho2
  clear ho2 hg2 hl hlen
  go_wp2_with fail
  refine (ref_get _ n c w.heap.size xs (i : Int) w2 (by omega) (by omega) (bytes_keep HR.out HB.out)).mono ?_
  rintro e w3 ⟨rfl, hb⟩
  rw [HG.out]
  have ho3 := HO.out.keep (w' := w3) (fun k hk => hb.block k (HO.out.lt k hk))
  replace HO := Lib.hid ho3
  replace HB := Lib.hid (below_on HB.out hb)
  obtain ⟨hc, hf⟩ := ho3.cell (i := i / 8) (by rw [HR.out.1]; omega)
  have hx2 : xs[i / 8]'(by rw [HR.out.1]; omega) = x := by
    have h := HX.out
    rw [List.getElem?_eq_getElem (by rw [HR.out.1]; omega)] at h
    injection h
  rw [hx2] at hc
  replace hc : w3.cell? ⟨g, i / 8, none⟩ = some (.int .u8 (x.toNat : Int)) := hc
  have hc2 : w3.drew.cell? ⟨g, i / 8, none⟩ = some (.int .u8 (x.toNat : Int)) := hc
  have hf2 : w3.drew.frozen? ⟨g, i / 8, none⟩ = false := hf
  clear hb ho3 hx2
  have hcap3 : ((i / 8 : Nat) : Int) < (cap : Int) := by omega
  rcases t with _ | _ <;> rcases on with _ | _
  · clear hsub hadd
    go_wp2
    go_ret2
    exact ⟨_, rfl, by rw [HN.out false HT.out.symm]; exact HO.out, HB.out⟩
  · obtain ⟨hope, hlow⟩ := hadd rfl
    have HOPE := Lib.hid hope
    have HOPEW := Lib.hid (show IntKind.u8.wrap ((x.toNat : Int) + (p : Int)) = ((Bits.put x (i % 8) true).toNat : Int) by rw [IntKind.wrap_u8, ← hope]; omega)
    clear hsub hadd hope
    go_wp2
    go_region_with (first
      | (go_at_call 69; refine (HWO.out _).mono ?_; rintro e w7 ⟨rfl, hw⟩; subst w7))
    all_goals go_wp2
    all_goals go_ret2
    all_goals
      refine ⟨_, rfl, ?_, (HB.out.setCell hg _).drew⟩
      rw [HPE.out true]
      first
        | (rw [HOPEW.out]; exact HO.out.set (i / 8) _)
        | (rw [HOPE.out]; exact HO.out.set (i / 8) _)
  · obtain ⟨hope, hlow⟩ := hsub rfl
    have HOPE := Lib.hid hope
    have HOPEW := Lib.hid (show IntKind.u8.wrap ((x.toNat : Int) - (p : Int)) = ((Bits.put x (i % 8) false).toNat : Int) by rw [IntKind.wrap_u8, ← hope]; omega)
    clear hsub hadd hope
    go_wp2
    go_region_with (first
      | (go_at_call 69; refine (HWO.out _).mono ?_; rintro e w7 ⟨rfl, hw⟩; subst w7))
    all_goals go_wp2
    all_goals go_ret2
    all_goals
      refine ⟨_, rfl, ?_, (HB.out.setCell hg _).drew⟩
      rw [HPE.out false]
      first
        | (rw [HOPEW.out]; exact HO.out.set (i / 8) _)
        | (rw [HOPE.out]; exact HO.out.set (i / 8) _)
  · clear hsub hadd
    go_wp2
    go_ret2
    exact ⟨_, rfl, by rw [HN.out true HT.out.symm]; exact HO.out, HB.out⟩

end Go.Proofs.Ytpheblblkkclbaa.BitsPkg
