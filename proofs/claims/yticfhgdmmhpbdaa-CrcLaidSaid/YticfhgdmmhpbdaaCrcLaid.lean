/-
  CrcLaid: for any three slices of bytes the law answers true, and they read afterwards as they read before. No condition.
-/
import Derived.Test.YticfhgdmmhpbdaaCrcKit
import Derived.Test.YticfhgdmmhpbdaaNums
import Derived.Deep.RegionHeld3
import Derived.Deep.AppendLies
import Derived.Deep.QuietTactic
import Derived.BigQuiet
namespace Go.Proofs.Yticfhgdmmhpbdaa.crcLaid
open Go.ChangeShapes Go.WideShapes Go.ChangeAt Go.RowKit

theorem info8 : byteInfo Try.prog 5 := info_parts (by kernel_rfl)

theorem run_min4 {P : Program} (a b c d : Nat) : ∃ m : Nat, (∀ (ts : Array TypeId) (t : TypeId) (w : World), (Builtin.min_ ts t #[.int .i64 (a : Int), .int .i64 (b : Int), .int .i64 (c : Int), .int .i64 (d : Int)]).run P w = .ok (.int .i64 (m : Int)) w) ∧ m ≤ a ∧ m ≤ b ∧ m ≤ c ∧ m ≤ d := by
  refine ⟨min (min (min a b) c) d, fun ts t w => ?_, by omega, by omega, by omega, by omega⟩
  have e : ∀ x y : Nat, (if (y : Int) < (x : Int) then (y : Int) else (x : Int)) = ((min x y : Nat) : Int) := fun x y => by split <;> omega
  have h : (Builtin.min_ ts t #[.int .i64 (a : Int), .int .i64 (b : Int), .int .i64 (c : Int), .int .i64 (d : Int)]).run P w = .ok (.int .i64 (if (d : Int) < (if (c : Int) < (if (b : Int) < (a : Int) then (b : Int) else (a : Int)) then (c : Int) else (if (b : Int) < (a : Int) then (b : Int) else (a : Int))) then (d : Int) else (if (c : Int) < (if (b : Int) < (a : Int) then (b : Int) else (a : Int)) then (c : Int) else (if (b : Int) < (a : Int) then (b : Int) else (a : Int))))) w := by
    simp [Builtin.min_, Builtin.min2]
  rw [h, e, e, e]

theorem lay_snoc : ∀ (xs ys zs : List UInt8) (x y z : UInt8), ys.length = xs.length → zs.length = xs.length → Crc.lay (xs ++ [x]) (ys ++ [y]) (zs ++ [z]) = Crc.lay xs ys zs ++ [x ^^^ y ^^^ z]
  | [], [], [], _, _, _, _, _ => rfl
  | _ :: xs, _ :: ys, _ :: zs, x, y, z, h1, h2 => congrArg (_ :: ·) (lay_snoc xs ys zs x y z (by simpa using h1) (by simpa using h2))

theorem lay_length : ∀ (xs ys zs : List UInt8), ys.length = xs.length → zs.length = xs.length → (Crc.lay xs ys zs).length = xs.length
  | [], [], [], _, _ => rfl
  | _ :: xs, _ :: ys, _ :: zs, h1, h2 => congrArg (· + 1) (lay_length xs ys zs (by simpa using h1) (by simpa using h2))

/-- What has been laid behind k rounds. -/
def laidTo (xs ys zs : List UInt8) (k : Nat) : List UInt8 := Crc.lay (xs.take k) (ys.take k) (zs.take k)

theorem laidTo_length {xs ys zs : List UInt8} {k : Nat} (h1 : k ≤ xs.length) (h2 : k ≤ ys.length) (h3 : k ≤ zs.length) : (laidTo xs ys zs k).length = k := by
  unfold laidTo
  rw [lay_length _ _ _ (by simp; omega) (by simp; omega)]
  simp; omega

theorem laidTo_next {xs ys zs : List UInt8} {k : Nat} {x y z : UInt8} (h1 : xs[k]? = some x) (h2 : ys[k]? = some y) (h3 : zs[k]? = some z) : laidTo xs ys zs (k + 1) = laidTo xs ys zs k ++ [x ^^^ y ^^^ z] := by
  obtain ⟨hl1, rfl⟩ := List.getElem?_eq_some_iff.1 h1
  obtain ⟨hl2, rfl⟩ := List.getElem?_eq_some_iff.1 h2
  obtain ⟨hl3, rfl⟩ := List.getElem?_eq_some_iff.1 h3
  unfold laidTo
  rw [List.take_succ_eq_append_getElem hl1, List.take_succ_eq_append_getElem hl2, List.take_succ_eq_append_getElem hl3, lay_snoc _ _ _ _ _ _ (by simp; omega) (by simp; omega)]

theorem xor8 (x y : UInt8) : bits .xor .u8 (x.toNat : Int) (y.toNat : Int) = ((x ^^^ y).toNat : Int) := by
  have hx := x.toNat_lt
  have hy := y.toNat_lt
  rw [u8_xor_nat _ _ (by omega) (by omega), UInt8.toNat_xor]

theorem laid_eq (xs ys zs : List UInt8) (h1 : ys.length = xs.length) (h2 : zs.length = xs.length) : bits .xor .u32 (bits .xor .u32 (addI 0 xs) (addI 0 ys)) (addI 0 zs) = addI 0 (Crc.lay xs ys zs) := by
  have e := Crc.sum_lay xs ys zs h1 h2
  unfold Crc.sum at e
  unfold addI
  rw [bits_xor, bits_xor, bv_un, bv_un, bv_un, bv_un, show bv 0 = 0#32 from rfl, e]

theorem below_draws {B : Nat} {a w : World} (h : Below B a w) (n : Nat) : Below B a (w.drewN n) := ⟨h.os, h.tape, h.output, h.size, h.block⟩

set_option maxHeartbeats 400000 in
theorem walk (A : Option Addr) (n c : Nat) (xs : List UInt8) (A' : Option Addr) (n' c' : Nat) (ys : List UInt8) (A'' : Option Addr) (n'' c'' : Nat) (zs : List UInt8) (w : World)
    (hnc : n ≤ c) (hcm : c ≤ maxLen) (hr : Bytes w w.heap.size A n xs) (hnc' : n' ≤ c') (hcm' : c' ≤ maxLen) (hr' : Bytes w w.heap.size A' n' ys) (hnc'' : n'' ≤ c'') (hcm'' : c'' ≤ maxLen) (hr'' : Bytes w w.heap.size A'' n'' zs) :
    Calls Try.prog 6 #[.slice A n c, .slice A' n' c', .slice A'' n'' c''] w fun e w' => e = .returned (.bool true) ∧ Below w.heap.size w w' := by
  have HR := Lib.hid hr
  have HR' := Lib.hid hr'
  have HR'' := Lib.hid hr''
  clear hr hr' hr''
  have hn := Nat.le_trans hnc hcm
  have hn' := Nat.le_trans hnc' hcm'
  have hn'' := Nat.le_trans hnc'' hcm''
  unfold maxLen at hn hn' hn'' hcm hcm' hcm''
  go_enter Try.func6, Try.ntmps6
  go_wp2_with fail
  refine (awake_any _).mono ?_
  rintro e w1 ⟨rfl, hb⟩
  have HR1 := Lib.hid (bytes_keep HR.out hb)
  have HR1' := Lib.hid (bytes_keep HR'.out hb)
  have HR1'' := Lib.hid (bytes_keep HR''.out hb)
  have HB := Lib.hid hb
  have hsz := hb.size
  clear hb
  obtain ⟨m, hmin0, hm1, hm2, hm3, hm4⟩ := run_min4 (P := Try.prog) n n' n'' 20000
  have hmin : ∀ (ts : Array TypeId) (t : TypeId) (w : World), (Builtin.min_ ts t #[.int .i64 (n : Int), .int .i64 (n' : Int), .int .i64 (n'' : Int), .int .i64 20000]).run Try.prog w = .ok (.int .i64 (m : Int)) w := hmin0
  clear hmin0
  go_wp2
  clear hmin
  go_loopw [9, 10] (fun v i wr => ∃ k : Nat, k ≤ m ∧ i = .int .i64 k ∧ Own wr w1.heap.size 5 v (laidTo xs ys zs k) ∧ Below w1.heap.size w1 wr) (fun _ i _ => m - (intOf i).toNat)
  case atStart => exact ⟨0, by omega, rfl, ⟨rfl, .inl ⟨rfl, rfl⟩⟩, Below.refl _ _⟩
  case round =>
    obtain ⟨k, hk, rfl, ho, hb⟩ := hrel
    have HO := Lib.hid ho
    have HB3 := Lib.hid hb
    have hsz3 := hb.size
    clear ho hb
    by_cases hlt : k < m
    · obtain ⟨b0, o0, x, rfl, hb0, hx, hc0⟩ := (bytes_keep (bytes_more HR1.out hsz) HB3.out).at_ (k := k) (by omega)
      obtain ⟨b1, o1, y, rfl, hb1, hy, hc1⟩ := (bytes_keep (bytes_more HR1'.out hsz) HB3.out).at_ (k := k) (by omega)
      obtain ⟨b2, o2, z, rfl, hb2, hz, hc2⟩ := (bytes_keep (bytes_more HR1''.out hsz) HB3.out).at_ (k := k) (by omega)
      have HX := Lib.hid hx
      have HY := Lib.hid hy
      have HZ := Lib.hid hz
      clear hx hy hz
      have hlen : k + 1 ≤ 140737488355328 := by omega
      have HL := Lib.hid (show (laidTo xs ys zs k).length + 1 ≤ 140737488355328 by rw [laidTo_length (by rw [HR1.out.1]; omega) (by rw [HR1'.out.1]; omega) (by rw [HR1''.out.1]; omega)]; exact hlen)
      have HN := Lib.hid (laidTo_next HX.out HY.out HZ.out)
      have e1 := xor8 x y
      have e2 := xor8 (x ^^^ y) z
      generalize x ^^^ y = p at e1 e2 HN
      generalize p ^^^ z = q at e2 HN
      have i0 : (0 : Int) ≤ (k : Int) := Int.natCast_nonneg _
      have i1 : (k : Int) < (n : Int) := by omega
      have i2 : (k : Int) < (n' : Int) := by omega
      have i3 : (k : Int) < (n'' : Int) := by omega
      have hob := HO.out.block
      have ne0 : u9.ownBlock ≠ some b0 := fun e => by have := hob _ e; omega
      have ne1 : u9.ownBlock ≠ some b1 := fun e => by have := hob _ e; omega
      have ne2 : u9.ownBlock ≠ some b2 := fun e => by have := hob _ e; omega
      clear hob
      go_wp2
      go_region_held3 (fun w' => w'.cell? ⟨b0, o0 + k, none⟩ = some (.int .u8 (x.toNat : Int)) ∧ w'.cell? ⟨b1, o1 + k, none⟩ = some (.int .u8 (y.toNat : Int)) ∧ w'.cell? ⟨b2, o2 + k, none⟩ = some (.int .u8 (z.toNat : Int)))
        (first
          | go_keep
          | (go_split_ands
             refine ⟨?_, ?_, ?_⟩
             · (rw [hgrow.cell_far _ (by simp; omega) (Ne.symm ne0)]; assumption)
             · (rw [hgrow.cell_far _ (by simp; omega) (Ne.symm ne1)]; assumption)
             · (rw [hgrow.cell_far _ (by simp; omega) (Ne.symm ne2)]; assumption)))
        ((refine step_append_bytes _ (by rfl) _ _ _ (by rfl) w1.heap.size 5 Try.underlying22 info8 u9 (laidTo xs ys zs k) (by rfl) (HO.out.alloc _) (wr.heap.size + 1) (some ⟨wr.heap.size, 0, none⟩) 1 1 [q] (by rfl) (bytes_new wr [q] _ _ _ rfl) HL.out (by simp; omega) ?_; intro v2 w2 hown2 hgrow hlies))
      have hb4 := ((HB3.out.alloc hsz3 (.cells #[.int .u8 (q.toNat : Int)] 5)).drew).grown hgrow (by simp; omega) HO.out.block
      have HO4 : Hid (Own w2 w1.heap.size 5 v2 (laidTo xs ys zs (k + 1))) := by rw [HN.out]; exact hown2
      have HB4 := Lib.hid hb4
      clear hgrow hown2 hlies hb4 e1 e2
      go_wp2
      go_roundw
      case rel => exact ⟨k + 1, by omega, by go_num, HO4.out, HB4.out⟩
      case measure => simp [intOf]; omega
    · obtain rfl : k = m := by omega
      obtain ⟨A3, c3, rfl, hr3⟩ := HO.out.reads
      have hl3 : (laidTo xs ys zs k).length = k := laidTo_length (by rw [HR1.out.1]; omega) (by rw [HR1'.out.1]; omega) (by rw [HR1''.out.1]; omega)
      rw [hl3] at hr3 ⊢
      clear hl3
      have q0 := bytes_part (bytes_keep (bytes_more HR1.out hsz) HB3.out) (k := 0) (m := k) (cap := c + 1) (by omega) (by omega)
      have q1 := bytes_part (bytes_keep (bytes_more HR1'.out hsz) HB3.out) (k := 0) (m := k) (cap := c' + 1) (by omega) (by omega)
      have q2 := bytes_part (bytes_keep (bytes_more HR1''.out hsz) HB3.out) (k := 0) (m := k) (cap := c'' + 1) (by omega) (by omega)
      have hm0 : ∀ B : Option Addr, B.map (·.add 0) = B := fun B => by cases B <;> rfl
      rw [if_neg (by omega), hm0, List.drop_zero] at q0 q1 q2
      have Q0 := Lib.hid q0
      have Q1 := Lib.hid q1
      have Q2 := Lib.hid q2
      have Q3 := Lib.hid hr3
      clear q0 q1 q2 hr3 hm0
      have HK : Hid (k ≤ maxLen) := Lib.hid (by unfold maxLen; omega)
      have c0 : (0 : Int) ≤ (k : Int) := Int.natCast_nonneg _
      have c1 : (k : Int) ≤ (c : Int) := by omega
      have c2 : (k : Int) ≤ (c' : Int) := by omega
      have c3' : (k : Int) ≤ (c'' : Int) := by omega
      go_wp2
      go_quiet ((go_at_call 11; refine Calls.quiet_of_same ((sum_any _ _ _ _ _ _ HK.out (by first | exact Q0.out | exact Q1.out | exact Q2.out | exact Q3.out)).mono fun _ _ h => ⟨h.1, h.2.symm⟩)))
      go_wp2
      go_ret
      refine ⟨?_, HB.out.trans (below_draws (HB3.out.mono hsz) nq)⟩
      have e := laid_eq (xs.take k) (ys.take k) (zs.take k) (by simp [HR1.out.1, HR1'.out.1]; omega) (by simp [HR1.out.1, HR1''.out.1]; omega)
      show Ending.returned (.bool (bits .xor .u32 (bits .xor .u32 (addI 0 (xs.take k)) (addI 0 (ys.take k))) (addI 0 (zs.take k)) == addI 0 (Crc.lay (xs.take k) (ys.take k) (zs.take k)))) = _
      rw [e]
      simp

theorem own : ownKnob Try.prog.godebug = none := by kernel_rfl
theorem laid : laidOutB Try.prog = true := by kernel_rfl
theorem one8 : Try.prog.cellsOf 5 = 1 := by kernel_rfl

set_option maxRecDepth 100000 in
theorem lifted (os : Os) (started : os.Started) (H : Type) (enc : TypeId × Value → H) :
    ReturnsInHanded {} Try.checked os 6 .any (Rows.crcLaidSpec.pre6 enc Try.prog Try.f6 Rows.crcLaidRow.domain false) (Rows.crcLaidSpec.post enc Try.prog Try.f6 false true false false) := by
  refine returnsInHanded_of_change (C := Try.checked) own started (by kernel_rfl) Try.func6
    (ChangeSpec.witness6 (enc := enc) (C := Try.checked) false ⟨#[], #[.slice none 0 0, .slice none 0 0, .slice none 0 0], []⟩ 8 (by kernel_rfl) (by kernel_rfl) (by kernel_rfl) (by kernel_rfl)) ?_
  intro W base args ds gs before hval0 hW _ _
  have hval : ∀ (j : Nat) t v, Try.f6.params[j]? = some t → args[j]? = some v → Value.okWide Try.prog W .any base t v := hval0
  have hW' := hW
  obtain ⟨p, q, hA0, hV, rfl, hfz, hnd⟩ := hW
  have hA : DataW.TrodAll enc Try.prog W 0 (fun _ => true) true Try.f6.params.toList args.toList ds p := hA0
  rw [Try.params6] at hA hval
  obtain ⟨v0, v1, v2, d0, d1, d2, p0, p1, p2, rfl, rfl, rfl, h0, h1, h2⟩ := trodAll_three hA
  obtain ⟨A0, n0, c0, xs0, rfl, hnc0, hcm0, hr0⟩ := open_bytes Try.underlying22 Try.underlying5 one8 (hval 0 22 v0 rfl rfl) h0
  obtain ⟨A1, n1, c1, xs1, rfl, hnc1, hcm1, hr1⟩ := open_bytes Try.underlying22 Try.underlying5 one8 (hval 1 22 v1 rfl rfl) h1
  obtain ⟨A2, n2, c2, xs2, rfl, hnc2, hcm2, hr2⟩ := open_bytes Try.underlying22 Try.underlying5 one8 (hval 2 22 v2 rfl rfl) h2
  refine (walk A0 n0 c0 xs0 A1 n1 c1 xs1 A2 n2 c2 xs2 W hnc0 hcm0 hr0 hnc1 hcm1 hr1 hnc2 hcm2 hr2).mono fun e W' ⟨he, hb⟩ => ?_
  subst he
  exact ⟨_, rfl, Law.post laid (by kernel_rfl) (by kernel_rfl) Try.underlying4 rfl hW' rfl hb⟩

theorem proved : Rows.CrcLaidSaid :=
  OpenClaim.holds_of_wide 6 Try.f6 rfl rfl rfl rfl rfl rfl rfl ⟨rfl, rfl, rfl, rfl, rfl⟩ rfl rfl rfl rfl rfl (by kernel_rfl) Try.func6 (by kernel_rfl)
    (of_decide_eq_true (by kernel_rfl)) (by unfold Func.isWrapper; first | (rw [if_pos (by decide +kernel)]; kernel_rfl) | (rw [if_neg (by decide +kernel)]; exact ⟨rfl, rfl⟩))
    (fun os started H enc _ => lifted os started H enc)

end Go.Proofs.Yticfhgdmmhpbdaa.crcLaid
