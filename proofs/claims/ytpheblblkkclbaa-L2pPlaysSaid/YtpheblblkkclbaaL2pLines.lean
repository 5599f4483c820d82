/-
  What package l2p does: Many; visit, Valid, Bits. Printed by lines.py.
-/
import Derived.Test.YtpheblblkkclbaaL2pNew
import Derived.Test.YtpheblblkkclbaaL2pBm
import Derived.Test.YtpheblblkkclbaaBitsKit
namespace Go.Proofs.Ytpheblblkkclbaa.L2pPkg
open Go.RowKit Go.ChangeShapes L2p
open Nand (Shape)
set_option maxRecDepth 4000

section
variable {G : Shape} {n : Nat} {w w' : World} {P : Pl} {st : St}

theorem Many_any (h : Mp G n w P st) :
    Calls Try.prog 13 #[ptr P.g 0] w fun x w' => x = .returned (.int .i64 (many st n)) ∧ Below w.heap.size w w' := by
  have hc := h.q.cE.1
  have hn1 := h.n1
  have H := Lib.hid h
  clear h
  go_enter Try.func13, Try.ntmps13
  go_wp2
  go_loopw [3, 4, 10] (fun m _ i wr => ∃ k z : Nat, i = .int .i64 k ∧ m = .int .i64 z ∧ z = many st k ∧ k ≤ n ∧ Below w.heap.size w wr) (fun _ _ i _ => n - (intOf i).toNat)
  case atStart => exact ⟨0, 0, rfl, rfl, rfl, Nat.zero_le _, Below.refl _ _⟩
  case round =>
    obtain ⟨k, z, rfl, rfl, hz, hk, hbw⟩ := hrel
    have HZ := Lib.hid hz
    have HB := Lib.hid hbw
    have hzk : z ≤ k := by rw [hz]; exact many_le st k
    clear hz hbw
    by_cases hlt : k < n
    · have HG := Lib.hid (getE_is (H.out.below HB.out) k hlt)
      have HM := Lib.hid (fun w => isMapped_any (st k) w)
      generalize hE : st k = E at HG HM
      have HE := Lib.hid hE
      clear hE
      go_wp2_with fail
      refine HG.out.mono ?_
      rintro e w2 ⟨rfl, hb⟩
      replace HB := Lib.hid (below_then HB.out hb)
      clear hb
      by_cases hm : E.a = -1
      · rw [show decide (E.a ≠ -1) = false by simp [hm]] at HM
        have HME := Lib.hid hm
        clear hm
        go_wp2_with fail
        refine (HM.out _).mono ?_
        rintro e w3 ⟨rfl, hb⟩
        replace HB := Lib.hid (below_then HB.out hb)
        clear hb
        go_wp2
        go_roundw
        case measure => simp [intOf]; omega
        case rel => exact ⟨k + 1, z, by go_num, rfl, by unfold many; rw [HE.out, if_pos HME.out, ← HZ.out]; rfl, by omega, HB.out⟩
      · rw [show decide (E.a ≠ -1) = true by simp [hm]] at HM
        have HME := Lib.hid hm
        clear hm
        go_wp2_with fail
        refine (HM.out _).mono ?_
        rintro e w3 ⟨rfl, hb⟩
        replace HB := Lib.hid (below_then HB.out hb)
        clear hb
        go_wp2
        go_roundw
        case measure => simp [intOf]; omega
        case rel => exact ⟨k + 1, z + 1, by go_num, by go_num, by unfold many; rw [HE.out, if_neg HME.out, ← HZ.out], by omega, HB.out⟩
    · obtain rfl : k = n := by omega
      go_wp2
      go_ret
      exact ⟨by rw [HZ.out]; rfl, HB.out⟩

theorem prod_bd (hG : G.Ok) {line : Int} (h0 : 0 ≤ line) (h1 : line < G.k) : 0 ≤ line * G.L ∧ line * G.L + G.L ≤ G.N := by
  have hl := hG.l0
  have h2 : 0 ≤ line * G.L := Int.mul_nonneg h0 (by omega)
  have h3 : (line + 1) * G.L ≤ G.k * G.L := Int.mul_le_mul_of_nonneg_right (by omega) (by omega)
  rw [Int.add_mul] at h3
  have hn := hG.n
  exact ⟨h2, by omega⟩

theorem Line_of (hG : G.Ok) (w : World) : Calls Try.prog 23 #[geoV G] w fun e w' => e = .returned (.int .i64 G.L) ∧ Below w.heap.size w w' := Line_ok hG w

theorem visit_none (h : Mp G n w P st) (V : Value) (line : Int) (hl : ¬ (0 ≤ line ∧ line < G.k)) :
    Calls Try.prog 34 #[ptr P.g 0, .int .i64 line, V] w fun x w' => x = .returned (.tuple #[]) ∧ w' = w := by
  have HL := Lib.hid (show Calls _ _ _ _ _ from hasLine_any h line)
  rw [decide_eq_false hl] at HL
  clear h hl
  go_enter Try.func34, Try.ntmps34
  go_wp2_with fail
  refine HL.out.mono ?_
  rintro e w2 ⟨rfl, hw⟩; subst w2
  go_wp2
  refine bodyPost_ret (v := .tuple #[]) ?_ rfl ⟨rfl, rfl⟩
  simp [results, Try.results34, go_sem]

theorem visit_valid (hG : G.Ok) (h : Mp G n w P st) (c1 : Value) (line : Int) (hl0 : 0 ≤ line) (hl1 : line < G.k) (I : Nat → World → Prop) (h0 : ∀ w2, Below w.heap.size w w2 → I 0 w2) (hI : ∀ i w, I i w → Mp G n w P st)
    (hstep : ∀ (i : Nat) w, (i : Int) < G.L → I i w → Calls Try.prog 62 #[.int .i64 (i : Int), .bool (decide (who st n (line * G.L + i) ≠ -1)), c1] w fun e w' => e = .returned (.tuple #[]) ∧ I (i + 1) w') :
    Calls Try.prog 34 #[ptr P.g 0, .int .i64 line, .func (.func 62) #[] #[c1]] w fun x w' => x = .returned (.tuple #[]) ∧ I G.L.toNat w' := by
  have HL := Lib.hid (show Calls _ _ _ _ _ from hasLine_any h line)
  rw [decide_eq_true ⟨hl0, hl1⟩] at HL
  obtain ⟨k0, k1, k2, k3, k4⟩ := h.q.cells
  have HLN := Lib.hid (Line_of hG w)
  have hpr := prod_bd hG hl0 hl1
  have hNN := hG.n1
  have hL0 := hG.l0
  have hL1 := hG.l1
  obtain ⟨B, hB⟩ : ∃ B, B = line * G.L := ⟨_, rfl⟩
  have hw1 : IntKind.i64.wrap (line * G.L) = B := by rw [hB]; exact kwrap_is (by omega) (by omega)
  have hw2 : wrap64 (line * G.L) = B := by rw [hB]; exact wrap_is (by omega) (by omega)
  rw [← hB] at hstep hpr
  have HLV := Lib.hid (fun (a : Int) w (hm : Mp G n w P st) => Live_any hm hNN a)
  have HH0 := Lib.hid h0
  have HHI := Lib.hid hI
  have HS := Lib.hid hstep
  have HWE := Lib.hid (fun (a : Int) (h0 : 0 ≤ a) (h1 : a < G.N) => show liveAt st n G.N a = who st n a by unfold liveAt; rw [if_pos ⟨h0, h1⟩])
  have HWB := Lib.hid (fun a => who_bd st n a)
  have hn1 := h.n1
  generalize G.L = L at *
  generalize G.N = N at *
  clear hI hstep h0 h hG hB
  go_enter Try.func34, Try.ntmps34
  go_wp2_with fail
  refine HL.out.mono ?_
  rintro e w2 ⟨rfl, hw⟩; subst w2
  go_wp2_with fail
  refine HLN.out.mono ?_
  rintro e w2 ⟨rfl, hb⟩
  replace HH0 := Lib.hid (HH0.out w2 hb)
  clear hb k0 k1 k2 k3 k4 HLN HL
  go_wp2
  go_loopw [7, 8, 9, 20] (fun _ _ _ i wr => ∃ k : Nat, i = .int .i64 (k : Int) ∧ (k : Int) ≤ L ∧ I k wr) (fun _ _ _ i _ => L.toNat - (intOf i).toNat)
  case atStart => exact ⟨0, rfl, by omega, HH0.out⟩
  case round =>
    obtain ⟨k, rfl, hk, hi⟩ := hrel
    have HI := Lib.hid hi
    clear hi
    by_cases hlt : (k : Int) < L
    · have HV := Lib.hid (HLV.out (B + k) _ (HHI.out k _ HI.out))
      have HST := Lib.hid (HS.out k _ hlt HI.out)
      rw [HWE.out (B + k) (by omega) (by omega)] at HV
      have hbd := HWB.out (B + k)
      generalize who st n (B + k) = z at HV HST hbd
      by_cases hz : z = -1
      · subst hz
        rw [show liveV (-1) = .tuple #[.int .i64 0, .bool false] from rfl] at HV
        rw [show decide ((-1 : Int) ≠ -1) = false from rfl] at HST
        go_wp2_with fail
        refine HV.out.mono ?_
        rintro e w3 ⟨rfl, hw⟩; subst w3
        go_wp2_with fail
        refine HST.out.mono ?_
        rintro e w3 ⟨rfl, hi⟩
        go_wp2
        go_roundw
        case measure => simp [intOf]; omega
        case rel => exact ⟨k + 1, by go_num, by omega, hi⟩
      · rw [show liveV z = .tuple #[.int .i64 z, .bool true] by unfold liveV; simp [hz]] at HV
        rw [show decide (z ≠ -1) = true by simp [hz]] at HST
        have HZ := Lib.hid hz
        clear hz
        go_wp2_with fail
        refine HV.out.mono ?_
        rintro e w3 ⟨rfl, hw⟩; subst w3
        go_wp2_with fail
        refine HST.out.mono ?_
        rintro e w3 ⟨rfl, hi⟩
        go_wp2
        go_roundw
        case measure => simp [intOf]; omega
        case rel => exact ⟨k + 1, by go_num, by omega, hi⟩
    · obtain rfl : k = L.toNat := by omega
      go_wp2
      go_end0
      exact ⟨rfl, HI.out⟩

theorem visit_bits (hG : G.Ok) (h : Mp G n w P st) (c1 : Value) (line : Int) (hl0 : 0 ≤ line) (hl1 : line < G.k) (I : Nat → World → Prop) (h0 : ∀ w2, Below w.heap.size w w2 → I 0 w2) (hI : ∀ i w, I i w → Mp G n w P st)
    (hstep : ∀ (i : Nat) w, (i : Int) < G.L → I i w → Calls Try.prog 35 #[.int .i64 (i : Int), .bool (decide (who st n (line * G.L + i) ≠ -1)), c1] w fun e w' => e = .returned (.tuple #[]) ∧ I (i + 1) w') :
    Calls Try.prog 34 #[ptr P.g 0, .int .i64 line, .func (.func 35) #[] #[c1]] w fun x w' => x = .returned (.tuple #[]) ∧ I G.L.toNat w' := by
  have HL := Lib.hid (show Calls _ _ _ _ _ from hasLine_any h line)
  rw [decide_eq_true ⟨hl0, hl1⟩] at HL
  obtain ⟨k0, k1, k2, k3, k4⟩ := h.q.cells
  have HLN := Lib.hid (Line_of hG w)
  have hpr := prod_bd hG hl0 hl1
  have hNN := hG.n1
  have hL0 := hG.l0
  have hL1 := hG.l1
  obtain ⟨B, hB⟩ : ∃ B, B = line * G.L := ⟨_, rfl⟩
  have hw1 : IntKind.i64.wrap (line * G.L) = B := by rw [hB]; exact kwrap_is (by omega) (by omega)
  have hw2 : wrap64 (line * G.L) = B := by rw [hB]; exact wrap_is (by omega) (by omega)
  rw [← hB] at hstep hpr
  have HLV := Lib.hid (fun (a : Int) w (hm : Mp G n w P st) => Live_any hm hNN a)
  have HH0 := Lib.hid h0
  have HHI := Lib.hid hI
  have HS := Lib.hid hstep
  have HWE := Lib.hid (fun (a : Int) (h0 : 0 ≤ a) (h1 : a < G.N) => show liveAt st n G.N a = who st n a by unfold liveAt; rw [if_pos ⟨h0, h1⟩])
  have HWB := Lib.hid (fun a => who_bd st n a)
  have hn1 := h.n1
  generalize G.L = L at *
  generalize G.N = N at *
  clear hI hstep h0 h hG hB
  go_enter Try.func34, Try.ntmps34
  go_wp2_with fail
  refine HL.out.mono ?_
  rintro e w2 ⟨rfl, hw⟩; subst w2
  go_wp2_with fail
  refine HLN.out.mono ?_
  rintro e w2 ⟨rfl, hb⟩
  replace HH0 := Lib.hid (HH0.out w2 hb)
  clear hb k0 k1 k2 k3 k4 HLN HL
  go_wp2
  go_loopw [7, 8, 9, 20] (fun _ _ _ i wr => ∃ k : Nat, i = .int .i64 (k : Int) ∧ (k : Int) ≤ L ∧ I k wr) (fun _ _ _ i _ => L.toNat - (intOf i).toNat)
  case atStart => exact ⟨0, rfl, by omega, HH0.out⟩
  case round =>
    obtain ⟨k, rfl, hk, hi⟩ := hrel
    have HI := Lib.hid hi
    clear hi
    by_cases hlt : (k : Int) < L
    · have HV := Lib.hid (HLV.out (B + k) _ (HHI.out k _ HI.out))
      have HST := Lib.hid (HS.out k _ hlt HI.out)
      rw [HWE.out (B + k) (by omega) (by omega)] at HV
      have hbd := HWB.out (B + k)
      generalize who st n (B + k) = z at HV HST hbd
      by_cases hz : z = -1
      · subst hz
        rw [show liveV (-1) = .tuple #[.int .i64 0, .bool false] from rfl] at HV
        rw [show decide ((-1 : Int) ≠ -1) = false from rfl] at HST
        go_wp2_with fail
        refine HV.out.mono ?_
        rintro e w3 ⟨rfl, hw⟩; subst w3
        go_wp2_with fail
        refine HST.out.mono ?_
        rintro e w3 ⟨rfl, hi⟩
        go_wp2
        go_roundw
        case measure => simp [intOf]; omega
        case rel => exact ⟨k + 1, by go_num, by omega, hi⟩
      · rw [show liveV z = .tuple #[.int .i64 z, .bool true] by unfold liveV; simp [hz]] at HV
        rw [show decide (z ≠ -1) = true by simp [hz]] at HST
        have HZ := Lib.hid hz
        clear hz
        go_wp2_with fail
        refine HV.out.mono ?_
        rintro e w3 ⟨rfl, hw⟩; subst w3
        go_wp2_with fail
        refine HST.out.mono ?_
        rintro e w3 ⟨rfl, hi⟩
        go_wp2
        go_roundw
        case measure => simp [intOf]; omega
        case rel => exact ⟨k + 1, by go_num, by omega, hi⟩
    · obtain rfl : k = L.toNat := by omega
      go_wp2
      go_end0
      exact ⟨rfl, HI.out⟩

theorem validCl (i : Int) (on : Bool) (z : Int) (Bm : Nat) (t : TypeId) (w : World) (hz0 : 0 ≤ z) (hz1 : z ≤ 100000) (hm : w.heap[Bm]? = some (.cells #[.int .i64 z] t (0, 0))) :
    Calls Try.prog 62 #[.int .i64 i, .bool on, ptr Bm 0] w fun x w' => x = .returned (.tuple #[]) ∧ w' = if on then w.setCell ⟨Bm, 0, none⟩ (.int .i64 (z + 1)) else w := by
  have hc := cell_of_one hm
  have hf := free_of_one hm
  clear hm
  cases on
  · go_enter Try.func62, Try.ntmps62
    go_wp2
    go_end0
    exact ⟨rfl, rfl⟩
  · go_enter Try.func62, Try.ntmps62
    go_wp2
    go_end0
    exact ⟨rfl, rfl⟩

def validAt (st : St) (n : Nat) (G : Shape) (line : Int) : Nat := if 0 ≤ line ∧ line < G.k then valid st n (line * G.L) G.L.toNat else 0

theorem Valid_any (hG : G.Ok) (h : Mp G n w P st) (line : Int) :
    Calls Try.prog 26 #[ptr P.g 0, .int .i64 line] w fun x w' => x = .returned (.int .i64 (validAt st n G line)) ∧ Below w.heap.size w w' := by
  have hmf : ∀ (fn : Fn) (first cap : Array Value) (w : World), (Instr.makeFunc fn first cap).run Try.prog w = .ok (.func fn first cap) w := fun _ _ _ _ => rfl
  obtain ⟨ob, hob⟩ : ∃ ob, ob = Obj.cells #[.int .i64 0] 3 := ⟨_, rfl⟩
  have hX := (Below.refl w.heap.size w).alloc (Nat.le_refl _) ob
  have hh := h.below hX
  have hnew : (w.alloc ob).heap[w.heap.size]? = some (.cells #[.int .i64 0] 3 (0, 0)) := by rw [hob]; exact heap_alloc_new w _
  have hL1 := hG.l1
  have hL0 := hG.l0
  have HX := Lib.hid hX
  unfold validAt
  by_cases hl : 0 ≤ line ∧ line < G.k
  · rw [if_pos hl]
    have HV := Lib.hid (visit_valid hG hh (ptr w.heap.size 0) line hl.1 hl.2 (fun i wr => wr.heap[w.heap.size]? = some (.cells #[.int .i64 (valid st n (line * G.L) i : Int)] 3 (0, 0)) ∧ Below w.heap.size w wr)
      (fun w2 hb => ⟨(hb.block w.heap.size (by simp)).trans hnew, below_then HX.out hb⟩) (fun i wr hi => h.below hi.2)
      (fun i wr hi hI => by
        have hle := valid_le st n (line * G.L) i
        refine (validCl i _ _ w.heap.size _ wr (by omega) (by omega) hI.1).mono ?_
        rintro e w2 ⟨rfl, hw⟩
        refine ⟨rfl, ?_⟩
        rw [valid_succ]
        by_cases hz : who st n (line * G.L + i) = -1
        · rw [if_neg (by simp [hz])] at hw
          rw [hw, if_pos hz]
          exact hI
        · rw [if_pos (by simp [hz])] at hw
          rw [hw, if_neg hz]
          exact ⟨one_setCell hI.1, hI.2.setCell (Nat.le_refl _) _⟩))
    have hc := cell_of_one hnew
    generalize valid st n (line * G.L) G.L.toNat = z at HV
    clear hh hl hL0 hL1 hX h hG hnew
    subst hob
    go_enter Try.func26, Try.ntmps26
    go_wp2_with fail
    refine HV.out.mono ?_
    rintro e w2 ⟨rfl, hz, hb⟩
    have HB := Lib.hid hb
    have hc2 := cell_of_one hz
    clear hz hb hc
    go_wp2
    go_ret
    exact ⟨rfl, HB.out⟩
  · rw [if_neg hl]
    have HV := Lib.hid (visit_none hh (.func (.func 62) #[] #[ptr w.heap.size 0]) line hl)
    have hc := cell_of_one hnew
    clear hh hl hL0 hL1 hX h hG hnew
    subst hob
    go_enter Try.func26, Try.ntmps26
    go_wp2_with fail
    refine HV.out.mono ?_
    rintro e w2 ⟨rfl, hw⟩; subst w2
    go_wp2
    go_ret
    exact ⟨rfl, HX.out⟩

theorem bitsCl_off (i : Int) (V : Value) (w : World) :
    Calls Try.prog 35 #[.int .i64 i, .bool false, V] w fun x w' => x = .returned (.tuple #[]) ∧ w' = w := by
  go_enter Try.func35, Try.ntmps35
  go_wp2
  go_end0
  exact ⟨rfl, rfl⟩

theorem bitsCl_on (i : Nat) (A : Option Addr) (m c base Bm : Nat) (xs : List UInt8) (t : TypeId) (w : World) (hm : w.heap[Bm]? = some (.cells #[.slice A m c] t (0, 0))) (ho : Own w base 5 (.slice A m c) xs) (hbl : Bm < w.heap.size) (hl : xs.length = m) (hx : m ≤ 1000000) (hi : i < 8 * m) (hbase : base ≤ w.heap.size) :
    Calls Try.prog 35 #[.int .i64 (i : Int), .bool true, ptr Bm 0] w fun x w' => ∃ g, x = .returned (.tuple #[]) ∧ w'.heap[Bm]? = some (.cells #[.slice (some ⟨g, 0, none⟩) m m] t (0, 0)) ∧ Own w' base 5 (.slice (some ⟨g, 0, none⟩) m m) (Bits.put_at xs i true) ∧ (∀ B, B ≤ Bm → Below B w w') := by
  obtain ⟨A', c', hv, hr⟩ := ho.reads
  rw [hl] at hr hv
  injection hv with e1 _ e3
  subst e1 e3
  have HS := Lib.hid (BitsPkg.set_in A m c w.heap.size xs i true w (by omega) hr (Nat.le_refl _) hi)
  have hc := cell_of_one hm
  have hf := free_of_one hm
  have HM := Lib.hid hm
  clear hr ho hm hi hl hx
  go_enter Try.func35, Try.ntmps35
  go_wp2_with fail
  refine HS.out.mono ?_
  rintro e w2 ⟨rfl, ho2, hb⟩
  have hm2 := (hb.block Bm hbl).trans HM.out
  have hc2 := cell_of_one hm2
  have hf2 := free_of_one hm2
  have HM2 := Lib.hid hm2
  have HO2 := Lib.hid ho2
  have HB2 := Lib.hid hb
  clear hm2 ho2 hb hc hf
  go_wp2
  go_end0
  refine ⟨w.heap.size, rfl, one_setCell HM2.out, (HO2.out.keep fun k hk => ?_).le hbase, fun B hB' => (HB2.out.mono (by omega)).setCell hB' _⟩
  have hk : w.heap.size = k := by simpa [Value.ownBlock] using hk
  exact Below.heap_setCell _ _ _ _ (by show k ≠ Bm; omega)

def bitsAt (st : St) (n : Nat) (G : Shape) (line : Int) : List UInt8 := if 0 ≤ line ∧ line < G.k then bm st n (line * G.L) (BitsPkg.Bits.size G.L) G.L.toNat else []

theorem hasLine_of (h : Mp G n w P st) (line : Int) {t : Bool} (ht : decide (0 ≤ line ∧ line < G.k) = t) :
    Calls Try.prog 32 #[ptr P.g 0, .int .i64 line] w fun x w' => x = .returned (.bool t) ∧ w' = w := by
  rw [← ht]
  exact hasLine_any h line

theorem Bits_any (hG : G.Ok) (h : Mp G n w P st) (line : Int) :
    Calls Try.prog 14 #[ptr P.g 0, .int .i64 line] w fun x w' => ∃ v, x = .returned v ∧ Own w' w.heap.size 5 v (bitsAt st n G line) ∧ Below w.heap.size w w' := by
  have hmf : ∀ (fn : Fn) (first cap : Array Value) (w : World), (Instr.makeFunc fn first cap).run Try.prog w = .ok (.func fn first cap) w := fun _ _ _ _ => rfl
  unfold bitsAt
  by_cases hl : 0 ≤ line ∧ line < G.k
  · rw [if_pos hl]
    have HL := Lib.hid (hasLine_of h line (decide_eq_true hl))
    have HLN := Lib.hid (Line_of hG w)
    have HMK := Lib.hid (fun w => BitsPkg.make_any G.L w)
    obtain ⟨k0, k1, k2, k3, k4⟩ := h.q.cells
    have hL0 := hG.l0
    have hL1 := hG.l1
    obtain ⟨m, hm⟩ : ∃ m, m = BitsPkg.Bits.size G.L := ⟨_, rfl⟩
    have hsz : (m : Int) = (G.L + 7) / 8 := by rw [hm]; exact BitsPkg.Bits.size_in (by omega) (by omega)
    rw [← hm] at HMK ⊢
    have HV := Lib.hid (fun (w4 : World) (Bm : Nat) (h4 : Mp G n w4 P st) (hBm : w.heap.size ≤ Bm) (A : Option Addr) (c : Nat) (hh : w4.heap[Bm]? = some (.cells #[.slice A m c] 35 (0, 0))) (ho : Own w4 w.heap.size 5 (.slice A m c) (List.replicate m 0)) (hbw : Below w.heap.size w w4) (hne : ∀ k, (Value.slice A m c).ownBlock = some k → k < Bm) =>
      visit_bits hG h4 (ptr Bm 0) line hl.1 hl.2 (fun i wr => ∃ A c, wr.heap[Bm]? = some (.cells #[.slice A m c] 35 (0, 0)) ∧ Own wr w.heap.size 5 (.slice A m c) (bm st n (line * G.L) m i) ∧ Below w.heap.size w wr ∧ Bm < wr.heap.size)
        (fun w5 hb => ⟨A, c, (hb.block Bm (Array.getElem?_eq_some_iff.1 hh).1).trans hh, ho.keep (fun k hk => hb.block k (ho.lt k hk)), hbw.trans (hb.mono hbw.size), Nat.lt_of_lt_of_le (Array.getElem?_eq_some_iff.1 hh).1 hb.size⟩)
        (fun i wr ⟨_, _, _, _, hb, _⟩ => h.below hb)
        (fun i wr hi ⟨A, c, h1, h2, h3, h5⟩ => by
          by_cases hz : who st n (line * G.L + i) = -1
          · rw [show decide (who st n (line * G.L + i) ≠ -1) = false by simp [hz]]
            refine (bitsCl_off i _ wr).mono ?_
            rintro e w2 ⟨rfl, rfl⟩
            refine ⟨rfl, A, c, h1, ?_, h3, h5⟩
            unfold bm
            rw [if_pos hz]
            exact h2
          · rw [show decide (who st n (line * G.L + i) ≠ -1) = true by simp [hz]]
            refine (bitsCl_on i A m c w.heap.size Bm _ _ wr h1 h2 h5 (bm_len _ _ _ _ _) (by omega) (by omega) h3.size).mono ?_
            rintro e w2 ⟨g, rfl, h6, h7, h8⟩
            refine ⟨rfl, _, _, h6, ?_, h3.trans (h8 _ hBm), (Array.getElem?_eq_some_iff.1 h6).1⟩
            unfold bm
            rw [if_neg hz]
            exact h7))
    have H := Lib.hid h
    generalize bm st n (line * G.L) m G.L.toNat = ys at HV ⊢
    clear h hl hG hm
    go_enter Try.func14, Try.ntmps14
    go_wp2_with fail
    refine HL.out.mono ?_
    rintro e w2 ⟨rfl, hw⟩; subst w2
    go_wp2_with fail
    refine HLN.out.mono ?_
    rintro e w2 ⟨rfl, hb⟩
    have HB := Lib.hid hb
    clear hb k0 k1 k2 k3 k4
    go_wp2_with fail
    refine (HMK.out _).mono ?_
    rintro e w3 ⟨v, rfl, ho, hb⟩
    obtain ⟨A, c, hv, hr⟩ := ho.reads
    have hb3 := below_then HB.out hb
    have hx := hb3.alloc hb3.size (.cells #[v] 35)
    rw [List.length_replicate] at hv hr
    have HVV := Lib.hid (HV.out (w3.alloc (.cells #[v] 35)) w3.heap.size (H.out.below hx) hb3.size A c (by rw [← hv]; exact heap_alloc_new w3 _) (by rw [← hv]; exact (ho.le HB.out.size).alloc _) hx (by rw [← hv]; exact ho.lt))
    subst hv
    clear hr ho hb hb3 hx
    go_wp2_with fail
    refine HVV.out.mono ?_
    rintro e w5 ⟨rfl, A', c', h1, h2, h3, h4⟩
    have hc := cell_of_one h1
    have HO := Lib.hid h2
    have HBB := Lib.hid h3
    clear h1 h2 h3 h4
    go_wp2
    go_ret
    exact ⟨_, rfl, HO.out, HBB.out⟩
  · rw [if_neg hl]
    have HL := Lib.hid (hasLine_of h line (decide_eq_false hl))
    clear h hl hG
    go_enter Try.func14, Try.ntmps14
    go_wp2_with fail
    refine HL.out.mono ?_
    rintro e w2 ⟨rfl, hw⟩; subst w2
    go_wp2
    go_ret
    exact ⟨_, rfl, ⟨rfl, Or.inl ⟨rfl, rfl⟩⟩, Below.refl _ _⟩

end
end Go.Proofs.Ytpheblblkkclbaa.L2pPkg
