/-
  What each function of package bits does, the first part: what a bitmap has room for, a bit got.
-/
import Derived.Test.YtpheblblkkclbaaRows
import Derived.Test.YtpheblblkkclbaaBitsMath
import Derived.Test.YtpheblblkkclbaaBytes
import Derived.Test.YtpheblblkkclbaaNums
import Derived.Test.YtpheblblkkclbaaMade
import Derived.OwnWalk
import Derived.WalkMore
import Derived.Deep.QuietTactic
import Derived.BigQuiet
import Derived.Laws.BitsAllLaws
import Derived.Laws.CopyOwn
namespace Go.Proofs.Ytpheblblkkclbaa.BitsPkg
open Go.RowKit
set_option maxRecDepth 4000

theorem room_any (A : Option Addr) (n c : Nat) (w : World) (hn : n ≤ 1000000000000) :
    Calls Try.prog 59 #[.slice A n c] w fun e w' => e = .returned (.int .i64 (8 * (n : Int))) ∧ w' = w := by
  go_enter Try.func59, Try.ntmps59
  go_wp2
  go_ret
  exact ⟨rfl, rfl⟩

theorem may_any (n : Int) (w : World) :
    Calls Try.prog 56 #[.int .i64 n] w fun e w' => e = .returned (.bool (decide (0 ≤ n ∧ n ≤ 8192))) ∧ w' = w := by
  go_enter Try.func56, Try.ntmps56
  by_cases h0 : 0 ≤ n
  · by_cases h1 : n ≤ 8192
    · go_wp2
      go_ret
      exact ⟨by simp [h0, h1], rfl⟩
    · go_wp2
      go_ret
      exact ⟨by simp [h1], rfl⟩
  · go_wp2
    go_ret
    exact ⟨by simp; omega, rfl⟩

theorem size_any (n : Int) (h0 : 0 ≤ n) (h1 : n ≤ 8192) (w : World) :
    Calls Try.prog 57 #[.int .i64 n] w fun e w' => e = .returned (.int .i64 ((n + 7) / 8)) ∧ w' = w := by
  go_enter Try.func57, Try.ntmps57
  go_wp2
  go_ret
  exact ⟨rfl, rfl⟩

theorem has_yes (A : Option Addr) (n c : Nat) (i : Int) (w : World) (hn : n ≤ 1000000000000) (h0 : 0 ≤ i) (h1 : i < 8 * (n : Int)) :
    Calls Try.prog 52 #[.slice A n c, .int .i64 i] w fun e w' => e = .returned (.bool true) ∧ w' = w := by
  go_enter Try.func52, Try.ntmps52
  go_wp2_with fail
  refine (room_any A n c w hn).mono ?_
  rintro e w2 ⟨rfl, hw⟩; subst w2
  go_wp2
  go_ret
  exact ⟨rfl, rfl⟩

theorem has_no (A : Option Addr) (n c : Nat) (i : Int) (w : World) (hn : n ≤ 1000000000000) (h : i < 0 ∨ 8 * (n : Int) ≤ i) :
    Calls Try.prog 52 #[.slice A n c, .int .i64 i] w fun e w' => e = .returned (.bool false) ∧ w' = w := by
  go_enter Try.func52, Try.ntmps52
  by_cases h0 : 0 ≤ i
  · have h1 : 8 * (n : Int) ≤ i := by omega
    clear h
    go_wp2_with fail
    refine (room_any A n c w hn).mono ?_
    rintro e w2 ⟨rfl, hw⟩; subst w2
    go_wp2
    go_ret
    exact ⟨by simp; omega, rfl⟩
  · clear h
    go_wp2
    go_ret
    exact ⟨rfl, rfl⟩

theorem value_any (i : Nat) (hi : (i : Int) ≤ 9223372036854775807) (w : World) :
    Calls Try.prog 53 #[.int .i64 (i : Int)] w fun e w' => e = .returned (.int .u8 (Bits.worth i : Int)) ∧ w' = w := by
  go_enter Try.func53, Try.ntmps53
  go_wp2
  go_ret
  refine ⟨ret_int ?_, rfl⟩
  have h := Bits.worth_bd i
  have h2 : ((2 : Int) ^ (i % 8)) = (Bits.worth i : Int) := by simp [Bits.worth]
  rw [h2]
  omega

theorem and_worth (x : UInt8) (i : Nat) : (bits .and .u8 (x.toNat : Int) (Bits.worth i : Int) != 0) = x.toNat.testBit (i % 8) := by
  have h := (Bits.tests ⟨x.toNat, x.toNat_lt⟩ ⟨i % 8, by omega⟩).1
  simp only at h
  have hp := Bits.worth_bd i
  rw [u8_and_nat _ _ x.toNat_lt (by omega), show Bits.worth i = 2 ^ (i % 8) from rfl, h]
  have hp2 : 1 ≤ 2 ^ (i % 8) := hp.1
  cases x.toNat.testBit (i % 8)
  · simp
  · rw [if_pos rfl]
    simp only [bne_iff_ne, ne_eq]
    omega

theorem or_worth (x : UInt8) (i : Nat) : bits .or .u8 (x.toNat : Int) (Bits.worth i : Int) = ((Bits.put x (i % 8) true).toNat : Int) := by
  have h := (Bits.tests ⟨x.toNat, x.toNat_lt⟩ ⟨i % 8, by omega⟩).2.2.1
  simp only at h
  have hp := Bits.worth_bd i
  rw [u8_or_nat _ _ x.toNat_lt (by omega), show Bits.worth i = 2 ^ (i % 8) from rfl, h, Bits.put_toNat _ (by omega)]
  rfl

theorem andNot_worth (x : UInt8) (i : Nat) : bits .andNot .u8 (x.toNat : Int) (Bits.worth i : Int) = ((Bits.put x (i % 8) false).toNat : Int) := by
  have h := (Bits.tests ⟨x.toNat, x.toNat_lt⟩ ⟨i % 8, by omega⟩).2.2.2.1
  simp only at h
  have hp := Bits.worth_bd i
  rw [u8_andNot_nat _ _ x.toNat_lt (by omega), show Bits.worth i = 2 ^ (i % 8) from rfl, h, Bits.put_toNat _ (by omega)]
  cases x.toNat.testBit (i % 8) <;> simp

theorem get_in (A : Option Addr) (n c B : Nat) (xs : List UInt8) (i : Nat) (w : World) (hn : n ≤ 1000000000000) (hr : Bytes w B A n xs) (h1 : i < 8 * n) :
    Calls Try.prog 22 #[.slice A n c, .int .i64 (i : Int)] w fun e w' => e = .returned (.bool (Bits.bit xs i)) ∧ ∃ k, w' = w.drewN k := by
  obtain ⟨b, off, x, rfl, hb, hx, hc⟩ := hr.at_ (show i / 8 < n by omega)
  rw [Bits.bit_at hx]
  clear hr hx
  have hlt : ((i / 8 : Nat) : Int) < (n : Int) := by omega
  have hlt2 : (i : Int) / 8 < (n : Int) := by omega
  go_enter Try.func22, Try.ntmps22
  go_wp2
  go_quiet (first
    | (go_at_call 52; refine Calls.quiet_of_same (has_yes _ n c i _ hn (by omega) (by omega)))
    | (go_at_call 53; refine Calls.quiet_of_same (value_any i (by omega) _)))
  go_wp2
  go_ret
  refine ⟨?_, _, rfl⟩
  rw [← and_worth x i]
  rfl

theorem get_out (A : Option Addr) (n c : Nat) (i : Int) (w : World) (hn : n ≤ 1000000000000) (h : i < 0 ∨ 8 * (n : Int) ≤ i) :
    Calls Try.prog 22 #[.slice A n c, .int .i64 i] w fun e w' => e = .returned (.bool false) ∧ ∃ k, w' = w.drewN k := by
  have H := Lib.hid h
  clear h
  go_enter Try.func22, Try.ntmps22
  go_wp2
  go_quiet (first
    | (go_at_call 52; refine Calls.quiet_of_same (has_no _ n c i _ hn H.out)))
  go_wp2
  go_ret
  exact ⟨rfl, _, rfl⟩

theorem get_any (A : Option Addr) (n c B : Nat) (xs : List UInt8) (i : Int) (w : World) (hn : n ≤ 1000000000000) (hr : Bytes w B A n xs) :
    Calls Try.prog 22 #[.slice A n c, .int .i64 i] w fun e w' => e = .returned (.bool (Bits.get xs i)) ∧ ∃ k, w' = w.drewN k := by
  have hl := hr.1
  by_cases h : i < 0 ∨ 8 * (n : Int) ≤ i
  · have e : Bits.get xs i = false := h.elim Bits.get_neg (fun h => Bits.get_past (by omega))
    rw [e]
    exact get_out A n c i w hn h
  · obtain ⟨k, rfl⟩ := Int.eq_ofNat_of_zero_le (show 0 ≤ i by omega)
    rw [Bits.get_nat]
    exact get_in A n c B xs k w hn hr (by omega)

theorem set_out (A : Option Addr) (n c : Nat) (i : Int) (on : Bool) (w : World) (hn : n ≤ 1000000000000) (h : i < 0 ∨ 8 * (n : Int) ≤ i) :
    Calls Try.prog 36 #[.slice A n c, .int .i64 i, .bool on] w fun e w' => e = .returned (.tuple #[.slice none 0 0, .bool false]) ∧ w' = w := by
  have H := Lib.hid h
  clear h
  go_enter Try.func36, Try.ntmps36
  go_wp2_with fail
  refine (has_no _ n c i _ hn H.out).mono ?_
  rintro e w2 ⟨rfl, hw⟩; subst w2
  go_wp2
  go_ret2
  exact ⟨rfl, rfl⟩

theorem info8 : byteInfo Try.prog 5 := info_parts (by kernel_rfl)

theorem size8 : (Try.prog.info? 5).map (·.size) = some 1 := by kernel_rfl

/-- The block of a copy, as an own slice. -/
theorem own_copied {w : World} {g n : Nat} {e : TypeId} {xs : List UInt8} (hl : xs.length = n) (hm : n ≤ maxLen) (h : w.heap[g]? = some (.cells (splice ((List.replicate n (0 : UInt8)).map cellOf) 0 (xs.map cellOf)).toArray e (0, 0))) :
    Own w g e (.slice (some ⟨g, 0, none⟩) n n) xs := by
  subst hl
  have e1 : splice ((List.replicate xs.length (0 : UInt8)).map cellOf) 0 (xs.map cellOf) = xs.map cellOf := by simp [splice]
  rw [e1] at h
  exact ⟨by simp, .inr ⟨g, xs.length, _, rfl, Nat.le_refl _, h, Nat.le_refl _, hm, by simp, List.take_of_length_le (by simp)⟩⟩

set_option maxHeartbeats 1000000 in
theorem set_in (A : Option Addr) (n c B : Nat) (xs : List UInt8) (i : Nat) (on : Bool) (w : World) (hn : n ≤ 1000000000000) (hr : Bytes w B A n xs) (hB : B ≤ w.heap.size) (h1 : i < 8 * n) :
    Calls Try.prog 36 #[.slice A n c, .int .i64 (i : Int), .bool on] w fun e w' => e = .returned (.tuple #[.slice (some ⟨w.heap.size, 0, none⟩) n n, .bool true]) ∧ Own w' w.heap.size 5 (.slice (some ⟨w.heap.size, 0, none⟩) n n) (Bits.put_at xs i on) ∧ Below w.heap.size w w' := by
  obtain ⟨b, off, x, rfl, hb, hx, hc⟩ := hr.at_ (show i / 8 < n by omega)
  rw [Bits.put_at_eq hx]
  have HX := Lib.hid hx
  have HR := Lib.hid hr
  clear hr hx hc
  have hlt : ((i / 8 : Nat) : Int) < (n : Int) := by omega
  have hlt2 : (i : Int) / 8 < (n : Int) := by omega
  have htn : ((i : Int) / 8).toNat = i / 8 := by omega
  have hwr : IntKind.i64.wrap ((i : Int) / 8) = ((i / 8 : Nat) : Int) := by rw [IntKind.wrap_i64]; omega
  obtain ⟨cs, hcs⟩ : ∃ cs, cs = xs.map cellOf := ⟨_, rfl⟩
  obtain ⟨zs, hzs⟩ : ∃ zs, zs = (List.replicate n (0 : UInt8)).map cellOf := ⟨_, rfl⟩
  obtain ⟨ob, hob⟩ : ∃ ob, ob = Obj.cells zs.toArray 5 := ⟨_, rfl⟩
  have hmk := fun kl kc => run_make_bytes (P := Try.prog) w 35 5 Try.underlying35 info8 kl kc n (by omega)
  rw [← hzs, ← hob] at hmk
  have HB0 := Lib.hid ((Below.refl w.heap.size w).alloc (Nat.le_refl _) ob)
  have HH := Lib.hid ((heap_alloc_new w ob).trans (congrArg some hob))
  have hl : xs.length = n := HR.out.1
  have hcn : cs.length = Nat.min n n := by rw [hcs]; simp [hl]
  have hfit : 0 + cs.length ≤ zs.length := by rw [hcs, hzs]; simp [hl]
  have h1c : ∀ v ∈ cs, v.oneCell' = true := by
    intro v hv
    rw [hcs] at hv
    obtain ⟨y, _, rfl⟩ := List.mem_map.1 hv
    rfl
  have hpos : ∀ j v, cs[j]? = some v → (w.alloc ob).cell? (Addr.add ⟨b, off, none⟩ j) = some v := by
    intro j v hj
    rw [hcs] at hj
    exact cells_of (bytes_keep HR.out (((Below.refl w.heap.size w).alloc (Nat.le_refl _) ob).mono hB)) j v hj
  have HPOS := Lib.hid hpos
  have HCN := Lib.hid hcn
  have HCS := Lib.hid hcs
  have HZS := Lib.hid hzs
  clear hcn hcs hzs hob hl hpos
  go_enter Try.func36, Try.ntmps36
  go_wp2_with fail
  refine (has_yes _ n c i _ hn (by omega) (by omega)).mono ?_
  rintro e w2 ⟨rfl, hw⟩; subst w2
  go_wp2_with (refine wpList_copy_splice rfl _ _ _ _ rfl 5 Try.underlying35 size8 _ _ _ _ _ _ rfl rfl w.heap.size 0 zs 5 HH.out cs HCN.out (fun _ => ⟨rfl, _, rfl, HPOS.out⟩) hfit h1c w.heap.size w HB0.out (Nat.le_refl _) ?_)
  intro w2 hg2 hb2
  have ho : Own w2 w.heap.size 5 (.slice (some ⟨w.heap.size, 0, none⟩) n n) xs := by
    have h := hg2.out
    rw [HCS.out, HZS.out] at h
    exact own_copied HR.out.1 (by show n ≤ 9223372036854775807; omega) h
  have HB := Lib.hid hb2
  have HO := Lib.hid ho
  obtain ⟨hc, hf⟩ := ho.cell (i := i / 8) (by rw [HR.out.1]; omega)
  have hx2 : xs[i / 8]'(by rw [HR.out.1]; omega) = x := by
    have h := HX.out
    rw [List.getElem?_eq_getElem (by rw [HR.out.1]; omega)] at h
    injection h
  rw [hx2] at hc
  replace hc : w2.cell? ⟨w.heap.size, i / 8, none⟩ = some (.int .u8 (x.toNat : Int)) := hc
  clear hg2 hb2 ho hx2 HPOS hfit h1c HCN HCS HZS HH HB0 hmk
  have hc2 : w2.drew.cell? ⟨w.heap.size, i / 8, none⟩ = some (.int .u8 (x.toNat : Int)) := hc
  have hf2 : w2.drew.frozen? ⟨w.heap.size, i / 8, none⟩ = false := hf
  cases on
  · go_wp2
    go_region_with (first
      | (go_at_call 53; refine (value_any i (by omega) _).mono ?_; rintro e w3 ⟨rfl, hw⟩; subst w3))
    all_goals go_wp2
    all_goals go_ret2
    all_goals
      refine ⟨rfl, ?_, (HB.out.setCell (Nat.le_refl _) _).drew⟩
      rw [andNot_worth]
      exact HO.out.set (i / 8) _
  · go_wp2
    go_region_with (first
      | (go_at_call 53; refine (value_any i (by omega) _).mono ?_; rintro e w3 ⟨rfl, hw⟩; subst w3))
    all_goals go_wp2
    all_goals go_ret2
    all_goals
      refine ⟨rfl, ?_, (HB.out.setCell (Nat.le_refl _) _).drew⟩
      rw [or_worth]
      exact HO.out.set (i / 8) _

end Go.Proofs.Ytpheblblkkclbaa.BitsPkg
