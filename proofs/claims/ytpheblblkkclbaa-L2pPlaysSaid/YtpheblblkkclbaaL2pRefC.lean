/-
  What the document's map of layer 11 does: Bits, Valid.
-/
import Derived.Test.YtpheblblkkclbaaL2pRefB
import Derived.Test.YtpheblblkkclbaaBitsRef2
import Derived.Test.YtpheblblkkclbaaBitsRef3
namespace Go.Proofs.Ytpheblblkkclbaa.L2pRef
open Go.RowKit Go.ChangeShapes L2p L2pPkg
open Nand (Shape)
set_option maxRecDepth 4000

/-- The bitmap of a line, sector by sector. -/
def rb (st : St) (line L : Int) (m : Nat) : Nat → List UInt8
  | 0 => List.replicate m 0
  | k + 1 => if 0 ≤ (st k).a ∧ (st k).a / L = line then Bits.put_at (rb st line L m k) ((st k).a % L).toNat true else rb st line L m k

theorem rb_len (st : St) (line L : Int) (m k : Nat) : (rb st line L m k).length = m := by
  induction k with
  | zero => simp [rb]
  | succ k ih =>
    unfold rb
    split
    · rw [Bits.put_at_length, ih]
    · exact ih

theorem rb_bit (st : St) (line L : Int) (hL : 0 < L) (h0 : 0 ≤ line) (m : Nat) (hm : L ≤ 8 * m) (k : Nat) (j : Nat) : Bits.bit (rb st line L m k) j = true ↔ ∃ t, t < k ∧ (st t).a = line * L + j ∧ (j : Int) < L := by
  induction k with
  | zero =>
    rw [show rb st line L m 0 = List.replicate m 0 from rfl, Bits.bit_zeros]
    constructor
    · intro h; cases h
    · rintro ⟨t, ht, _⟩; omega
  | succ k ih =>
    unfold rb
    have hd := Int.mul_ediv_add_emod (st k).a L
    have hm0 : 0 ≤ (st k).a % L := Int.emod_nonneg _ (by omega)
    have hm1 : (st k).a % L < L := Int.emod_lt_of_pos _ hL
    split
    · rename_i h
      rw [h.2, Int.mul_comm] at hd
      by_cases e : j = ((st k).a % L).toNat
      · subst e
        rw [Bits.bit_put_same (by rw [rb_len]; omega)]
        constructor
        · intro _
          exact ⟨k, by omega, by omega, by omega⟩
        · intro _; rfl
      · rw [Bits.bit_put_other e, ih]
        constructor
        · rintro ⟨t, ht, h1⟩
          exact ⟨t, by omega, h1⟩
        · rintro ⟨t, ht, h1, h2⟩
          by_cases e2 : t = k
          · subst e2
            omega
          · exact ⟨t, by omega, h1, h2⟩
    · rename_i h
      rw [ih]
      constructor
      · rintro ⟨t, ht, h1⟩
        exact ⟨t, by omega, h1⟩
      · rintro ⟨t, ht, h1, h2⟩
        by_cases e2 : t = k
        · subst e2
          exfalso
          have h3 : 0 ≤ line * L := Int.mul_nonneg h0 (by omega)
          have := Geom.divmod (q := line) (d := L) (r := j) (by omega) h2
          rw [← h1] at this
          exact h ⟨by omega, this.1⟩
        · exact ⟨t, by omega, h1, h2⟩

theorem rb_bm {G : Shape} (hG : G.Ok) {st : St} {n : Nat} (hI : Inv st n G.N) {line : Int} (h0 : 0 ≤ line) (h1 : line < G.k) : rb st line G.L (BitsPkg.Bits.size G.L) n = bitsAt st n G line := by
  have hl0 := hG.l0
  have hl1 := hG.l1
  have hs : ((BitsPkg.Bits.size G.L : Nat) : Int) = (G.L + 7) / 8 := BitsPkg.Bits.size_in (by omega) (by omega)
  have hp := prod_bd hG h0 h1
  unfold bitsAt
  rw [if_pos ⟨h0, h1⟩]
  apply Bits.ext (by rw [rb_len, bm_len])
  intro j hj
  rw [rb_len] at hj
  rw [Bool.eq_iff_iff, rb_bit st line G.L (by omega) h0 _ (by omega), bm_bit _ _ _ _ _ (by omega), decide_eq_true_eq]
  constructor
  · rintro ⟨t, ht, h2, h3⟩
    refine ⟨by omega, ?_⟩
    rw [← h2, who_is hI ht (by omega)]
    omega
  · rintro ⟨h2, h3⟩
    rcases who_cases st n (line * G.L + j) with ⟨h4, _⟩ | ⟨t, ht, _, h5⟩
    · exact absurd h4 h3
    · exact ⟨t, ht, h5, by omega⟩

section
variable {G : Shape} {n : Nat} {w w' : World} {Q : Pr} {st : St}

theorem rline_of (hG : G.Ok) (w : World) : Calls Try.prog 37 #[geoV G] w fun e w' => e = .returned (.int .i64 G.L) ∧ Below w.heap.size w w' := rline_ok hG w

set_option maxHeartbeats 1000000 in
theorem Bits_any (hG : G.Ok) (h : Rf G n w Q st) (line : Int) :
    Calls Try.prog 15 #[ptr Q.r 0, .int .i64 line] w fun x w' => ∃ v, x = .returned v ∧ Own w' w.heap.size 5 v (bitsAt st n G line) ∧ Below w.heap.size w w' := by
  by_cases hl : 0 ≤ line ∧ line < G.k
  rotate_left
  · have e : bitsAt st n G line = [] := by unfold bitsAt; rw [if_neg hl]
    rw [e]
    obtain ⟨_, _, k2, _, _, _⟩ := h.cells
    have HL : Hid (¬ (0 ≤ line ∧ line < G.k)) := Lib.hid hl
    clear h hl hG e
    by_cases h0 : line < 0
    · go_enter Try.func15, Try.ntmps15
      go_wp2
      go_ret
      exact ⟨_, rfl, ⟨rfl, Or.inl ⟨rfl, rfl⟩⟩, Below.refl _ _⟩
    · have h1 : G.k ≤ line := by have := HL.out; omega
      go_enter Try.func15, Try.ntmps15
      go_wp2
      go_ret
      exact ⟨_, rfl, ⟨rfl, Or.inl ⟨rfl, rfl⟩⟩, Below.refl _ _⟩
  · obtain ⟨hl0, hl1⟩ := hl
    rw [← rb_bm hG h.inv hl0 hl1]
    obtain ⟨k0, k1, k2, k3, k4, _⟩ := h.cells
    have HLN := Lib.hid (rline_of hG w)
    have HMK := Lib.hid (fun w => BitsPkg.ref_make G.L w)
    have hL0 := hG.l0
    have hL1 := hG.l1
    have hs : ((BitsPkg.Bits.size G.L : Nat) : Int) = (G.L + 7) / 8 := BitsPkg.Bits.size_in (by omega) (by omega)
    obtain ⟨m, hm⟩ : ∃ m, m = BitsPkg.Bits.size G.L := ⟨_, rfl⟩
    rw [← hm] at HMK hs ⊢
    have hf := h.fit
    unfold maxLen at hf
    have hn1 := h.n1
    have hNb := hG.n1
    have H := Lib.hid h
    generalize G.L = L at *
    have l0 : ¬ line < 0 := by omega
    have l1 : ¬ G.k ≤ line := by omega
    clear h hG hm
    go_enter Try.func15, Try.ntmps15
    go_wp2_with fail
    refine HLN.out.mono ?_
    rintro e w2 ⟨rfl, hb⟩
    have HB := Lib.hid hb
    clear hb k0 k1 k2 k3 k4
    go_wp2_with fail
    refine (HMK.out _).mono ?_
    rintro e w3 ⟨v, rfl, ho, hb⟩
    replace HB := Lib.hid (And.intro (below_then HB.out hb) (ho.le HB.out.size))
    clear hb ho
    go_wp2
    go_loopw [6, 7] (fun b i wr => ∃ (k : Nat), i = .int .i64 (k : Int) ∧ k ≤ n ∧ Own wr w.heap.size 5 b (rb st line L m k) ∧ Below w.heap.size w wr) (fun _ i _ => n - (intOf i).toNat)
    case atStart => exact ⟨0, rfl, by omega, HB.out.2, HB.out.1⟩
    case round =>
      obtain ⟨k, rfl, hk, ho, hbw⟩ := hrel
      have HR := H.out.below hbw
      obtain ⟨_, _, _, _, _, hc⟩ := HR.cells
      have HO := Lib.hid ho
      have HW := Lib.hid hbw
      by_cases hlt : k < n
      · obtain ⟨⟨c0, _, _⟩, _⟩ := HR.at hlt
        have hlt' : (k : Int) < n := by omega
        have hrb : rb st line L m (k + 1) = if 0 ≤ (st k).a ∧ (st k).a / L = line then Bits.put_at (rb st line L m k) ((st k).a % L).toNat true else rb st line L m k := rfl
        clear ho hbw HR
        by_cases ha : 0 ≤ (st k).a
        · have hd0 : 0 ≤ (st k).a / L := Int.ediv_nonneg ha (by omega)
          have hd1 : (st k).a / L ≤ (st k).a := Int.ediv_le_self _ ha
          have hzb : (st k).a ≤ 65536 := by
            have := H.out.inv.a_bd hlt
            have := hNb
            omega
          by_cases he : (st k).a / L = line
          · rw [if_pos ⟨ha, he⟩] at hrb
            have hM1 : (st k).a % L < L := Int.emod_lt_of_pos _ (by omega)
            obtain ⟨M, hM⟩ := Int.eq_ofNat_of_zero_le (show 0 ≤ (st k).a % L from Int.emod_nonneg _ (by omega))
            rw [hM] at hrb hM1
            rw [show ((M : Int)).toNat = M from rfl] at hrb
            obtain ⟨A, c, hv, hr⟩ := HO.out.reads
            rw [rb_len] at hv hr
            subst hv
            have HS := Lib.hid (BitsPkg.ref_set_in A m c wr.heap.size _ M true wr (by omega) hr (Nat.le_refl _) (by omega))
            rw [← hrb] at HS
            have HRB := Lib.hid hrb
            generalize (st k).a = z at c0 ha hd0 hd1 he hM hzb
            have hz0 : decide (0 ≤ z) = true := decide_eq_true ha
            clear hr hrb hlt
            go_wp2_with fail
            refine HS.out.mono ?_
            rintro e5 w5 ⟨v5, rfl, ho5, hb5⟩
            have HO5 := Lib.hid (ho5.le HW.out.size)
            have HW5 := Lib.hid (HW.out.trans (hb5.mono HW.out.size))
            clear ho5 hb5 HS
            go_wp2
            go_roundw
            case rel => exact ⟨k + 1, by go_num, by omega, HO5.out, HW5.out⟩
            case measure => simp [intOf]; omega
          · rw [if_neg (fun hh => he hh.2)] at hrb
            have HO5 := Lib.hid (show Own wr w.heap.size 5 _ (rb st line L m (k + 1)) by rw [hrb]; exact HO.out)
            generalize (st k).a = z at c0 ha hd0 hd1 he hzb
            have hz0 : decide (0 ≤ z) = true := decide_eq_true ha
            have hne : (z / L == line) = false := by simpa using he
            clear hrb hlt he
            go_wp2
            go_roundw
            case rel => exact ⟨k + 1, by go_num, by omega, HO5.out, HW.out⟩
            case measure => simp [intOf]; omega
        · rw [if_neg (fun hh => ha hh.1)] at hrb
          have HO5 := Lib.hid (show Own wr w.heap.size 5 _ (rb st line L m (k + 1)) by rw [hrb]; exact HO.out)
          generalize (st k).a = z at c0 ha
          have hz0 : decide (0 ≤ z) = false := decide_eq_false ha
          clear hrb hlt ha
          go_wp2
          go_roundw
          case rel => exact ⟨k + 1, by go_num, by omega, HO5.out, HW.out⟩
          case measure => simp [intOf]; omega
      · obtain rfl : k = n := by omega
        clear ho hbw HR
        go_wp2
        go_ret
        exact ⟨_, rfl, HO.out, HW.out⟩

theorem Valid_any (hG : G.Ok) (h : Rf G n w Q st) (line : Int) :
    Calls Try.prog 43 #[ptr Q.r 0, .int .i64 line] w fun x w' => x = .returned (.int .i64 (validAt st n G line)) ∧ Below w.heap.size w w' := by
  have HB := Lib.hid (Bits_any hG h line)
  have hlen : (bitsAt st n G line).length ≤ 1000 := by
    have hl0 := hG.l0
    have hl1 := hG.l1
    have hs : ((BitsPkg.Bits.size G.L : Nat) : Int) = (G.L + 7) / 8 := BitsPkg.Bits.size_in (by omega) (by omega)
    unfold bitsAt
    split
    · rw [bm_len]; omega
    · simp
  have hon : (Bits.ons (bitsAt st n G line) (8 * (bitsAt st n G line).length)).length = validAt st n G line := by
    have hl0 := hG.l0
    have hl1 := hG.l1
    have hs : ((BitsPkg.Bits.size G.L : Nat) : Int) = (G.L + 7) / 8 := BitsPkg.Bits.size_in (by omega) (by omega)
    unfold bitsAt validAt
    split
    · rw [bm_len]
      exact ons_bm _ _ _ _ _ (by omega)
    · rfl
  generalize bitsAt st n G line = xs at HB hlen hon
  have HON := Lib.hid hon
  clear h hG hon
  go_enter Try.func43, Try.ntmps43
  go_wp2_with fail
  refine HB.out.mono ?_
  rintro e w2 ⟨v, rfl, ho, hb⟩
  obtain ⟨A, c, hv, hr⟩ := ho.reads
  have HC := Lib.hid (BitsPkg.ref_count A xs.length c w2.heap.size xs w2 (by omega) hr (Nat.le_refl _))
  have HB2 := Lib.hid hb
  subst hv
  rw [HON.out] at HC
  clear hr ho hb hlen
  go_wp2_with fail
  refine HC.out.mono ?_
  rintro e w3 ⟨rfl, hb⟩
  go_wp2
  go_ret
  exact ⟨rfl, below_then HB2.out hb⟩

end
end Go.Proofs.Ytpheblblkkclbaa.L2pRef
