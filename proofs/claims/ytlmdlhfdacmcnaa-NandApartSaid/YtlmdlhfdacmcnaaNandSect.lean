/-
  What the laws of layer 8 make: a page's sectors, and what stands beside them.
-/
import Derived.Test.YtlmdlhfdacmcnaaNandNew
import Derived.Test.YtlmdlhfdacmcnaaVals
namespace Go.Proofs.Ytlmdlhfdacmcnaa.NandPkg
open Go.RowKit Nand
set_option maxRecDepth 4000

/-- A number's lowest byte. -/
def lb (z : Int) : UInt8 := UInt8.ofNat (z % 256).toNat

theorem lb_is (z : Int) : ((lb z).toNat : Int) = z % 256 := by
  unfold lb
  rw [UInt8.toNat_ofNat']
  omega

theorem wrap_lb (z : Int) : IntKind.u8.wrap z = ((lb z).toNat : Int) := by
  rw [lb_is, IntKind.wrap_u8]

theorem add_lb (x y : UInt8) : IntKind.u8.wrap ((x.toNat : Int) + (y.toNat : Int)) = ((x + y).toNat : Int) := by
  rw [IntKind.wrap_u8, UInt8.toNat_add]
  omega

theorem xor_lb (x y : UInt8) : bits .xor .u8 (x.toNat : Int) (y.toNat : Int) = ((x ^^^ y).toNat : Int) := by
  have hx := x.toNat_lt
  have hy := y.toNat_lt
  rw [u8_xor_nat _ _ (by omega) (by omega), UInt8.toNat_xor]

/-- The first j bytes by f, noughts behind them. -/
def part (f : Nat → UInt8) (j N : Nat) : List UInt8 := (List.range N).map fun q => if q < j then f q else 0

theorem part_len (f : Nat → UInt8) (j N : Nat) : (part f j N).length = N := by simp [part]

theorem part_start (f : Nat → UInt8) (N : Nat) : part f 0 N = List.replicate N 0 := by
  apply List.ext_getElem
  · simp [part]
  · intro i h1 h2
    simp [part]

theorem part_set (f : Nat → UInt8) (j N : Nat) : (part f j N).set j (f j) = part f (j + 1) N := by
  apply List.ext_getElem
  · simp [part]
  · intro i h1 h2
    rw [List.getElem_set]
    simp only [part, List.getElem_map, List.getElem_range]
    by_cases e : j = i
    · subst e
      simp
    · rw [if_neg e]
      by_cases h : i < j
      · rw [if_pos h, if_pos (by omega)]
      · rw [if_neg h, if_neg (by omega)]

def fD (n : Int) (i q : Nat) : UInt8 := lb n + lb ((i * 16 + q : Nat) : Int)
def fO (n : Int) (i q : Nat) : UInt8 := lb n ^^^ lb ((i * 16 + q : Nat) : Int)

def secD (n : Int) (i : Nat) : List UInt8 := part (fD n i) 16 16
def secO (n : Int) (odd : Bool) (i : Nat) : List UInt8 := if odd = true ∧ i = 0 then (part (fO n i) 16 17).take 16 else part (fO n i) 16 17

def dats (n : Int) (k : Nat) : List (List UInt8) := (List.range k).map (secD n)
def oobs (n : Int) (odd : Bool) (k : Nat) : List (List UInt8) := (List.range k).map (secO n odd)

theorem dats_snoc (n : Int) (k : Nat) : dats n (k + 1) = dats n k ++ [secD n k] := by simp [dats, List.range_succ]
theorem oobs_snoc (n : Int) (odd : Bool) (k : Nat) : oobs n odd (k + 1) = oobs n odd k ++ [secO n odd k] := by simp [oobs, List.range_succ]

/-- How many. -/
def few (s : Int) : Nat := (min s 4).toNat

theorem own_take {w : World} {base : Nat} {e : TypeId} {g n cap : Nat} {xs : List UInt8} (h : Own w base e (.slice (some ⟨g, 0, none⟩) n cap) xs) (m : Nat) (hm : m ≤ xs.length) : Own w base e (.slice (some ⟨g, 0, none⟩) m cap) (xs.take m) := by
  rcases h.2 with ⟨hv, _⟩ | ⟨g', cap', cur, hv, hb, hg, hnc, hcm, hcs, ht⟩
  · cases hv
  · injection hv with h1 h2 h3
    injection h1 with h1
    injection h1 with h1
    subst h1 h2 h3
    have hl : (xs.take m).length = m := by rw [List.length_take]; omega
    refine ⟨by rw [hl]; simp; omega, .inr ⟨g, cap, cur, by rw [hl], hb, hg, by omega, hcm, hcs, ?_⟩⟩
    rw [hl, List.map_take, ← ht, List.take_take]
    congr 1
    omega

theorem fD_cell (n : Int) (k q : Nat) : Value.int .u8 ((n + ((k : Int) * 16 + (q : Int))) % 256) = cellOf (fD n k q) := by
  have h1 := lb_is n
  have h2 := lb_is ((k * 16 + q : Nat) : Int)
  unfold cellOf fD
  rw [UInt8.toNat_add]
  congr 1
  omega

theorem fO_cell (n : Int) (k q : Nat) (h : k * 16 + q < 256) : Value.int .u8 (bits .xor .u8 (n % 256) ((k : Int) * 16 + (q : Int))) = cellOf (fO n k q) := by
  have h1 := lb_is n
  have h2 := lb_is ((k * 16 + q : Nat) : Int)
  unfold cellOf fO
  rw [← xor_lb, h1, h2]
  congr 2
  omega

theorem info8 : byteInfo Try.prog 5 := info_parts (by kernel_rfl)
theorem infoS : sliceInfo Try.prog 47 := info_parts (by kernel_rfl)

abbrev Sect (w : World) (base : Nat) (v : Value) (ls : List (List UInt8)) : Prop := Own2 w base 47 5 v ls

/-- What a round leaves. -/
theorem sect_step {w W wr w1 w2 : World} {B : Nat} {n : Int} {odd : Bool} {k : Nat} {c l kk p s : Int} {A1 A2 A1' A2' : Option Addr} {n1 n2 c1 c2 m1 m2 c1' c2' nb cb : Nat} {vs1 vs2 : List Value}
    (K1 : OwnV wr B 47 (.slice A1 n1 c1) vs1) (K2 : OwnV wr B 47 (.slice A2 n2 c2) vs2) (NE : ∀ b, (Value.slice A1 n1 c1).ownBlock = some b → (Value.slice A2 n2 c2).ownBlock ≠ some b)
    (I1 : ∀ (i : Nat) x xs, vs1[i]? = some x → (dats n k)[i]? = some xs → Own wr B 5 x xs) (I2 : ∀ (i : Nat) x xs, vs2[i]? = some x → (oobs n odd k)[i]? = some xs → Own wr B 5 x xs)
    (L1 : vs1.length = (dats n k).length) (L2 : vs2.length = (oobs n odd k).length)
    (HA : Own wr B 5 (.slice (some ⟨W.heap.size, 0, none⟩) 16 16) (secD n k)) (HB : Own wr B 5 (.slice (some ⟨W.heap.size + 1, 0, none⟩) nb cb) (secO n odd k))
    (G1 : wr.grownBy w1 (Value.slice A1 n1 c1).ownBlock) (G2 : w1.grownBy w2 (Value.slice A2 n2 c2).ownBlock)
    (O1 : OwnV w1 B 47 (.slice A1' m1 c1') (vs1 ++ [.slice (some ⟨W.heap.size, 0, none⟩) 16 16])) (O2 : OwnV w2 B 47 (.slice A2' m2 c2') (vs2 ++ [.slice (some ⟨W.heap.size + 1, 0, none⟩) nb cb]))
    (P1 : ∀ b, (Value.slice A1' m1 c1').ownBlock = some b → (Value.slice A1 n1 c1).ownBlock = some b ∨ wr.heap.size ≤ b) (P2 : ∀ b, (Value.slice A2' m2 c2').ownBlock = some b → (Value.slice A2 n2 c2).ownBlock = some b ∨ w1.heap.size ≤ b)
    (BW : Below w.heap.size w W) (BQ : Below W.heap.size W wr) (GE : Geo W w.heap.size c l kk p s) (hB1 : w.heap.size < B) :
    Sect w2 B (.slice A1' m1 c1') (dats n (k + 1)) ∧ Sect w2 B (.slice A2' m2 c2') (oobs n odd (k + 1)) ∧ (∀ b, (Value.slice A1' m1 c1').ownBlock = some b → (Value.slice A2' m2 c2').ownBlock ≠ some b) ∧ Geo w2 w.heap.size c l kk p s ∧ Below w.heap.size w w2 := by
  have hne : (5 : TypeId) ≠ 47 := by decide
  -- the blocks of bytes stay through both appends
  have st1 : ∀ x xs, Own wr B 5 x xs → Own w1 B 5 x xs := fun x xs h => h.keep fun b hb => G1.block b (h.lt b hb) (fun e => by
    obtain ⟨cur, hc⟩ := h.elem b hb
    obtain ⟨cur', hc'⟩ := K1.elem b e.symm
    exact elem_ne hne hc hc' rfl)
  have K2' : OwnV w1 B 47 (.slice A2 n2 c2) vs2 := K2.keep fun b hb => G1.block b (K2.lt b hb) (fun e => NE b e.symm hb)
  have st2 : ∀ x xs, Own w1 B 5 x xs → Own w2 B 5 x xs := fun x xs h => h.keep fun b hb => G2.block b (h.lt b hb) (fun e => by
    obtain ⟨cur, hc⟩ := h.elem b hb
    obtain ⟨cur', hc'⟩ := K2'.elem b e.symm
    exact elem_ne hne hc hc' rfl)
  have sep : ∀ b, (Value.slice A1' m1 c1').ownBlock = some b → (Value.slice A2 n2 c2).ownBlock ≠ some b := fun b h1 h2 => (P1 b h1).elim (fun h => NE b h h2) (fun h => by have := K2.lt b h2; omega)
  have O1' : OwnV w2 B 47 (.slice A1' m1 c1') (vs1 ++ [.slice (some ⟨W.heap.size, 0, none⟩) 16 16]) := O1.keep fun b hb => G2.block b (O1.lt b hb) (fun e => sep b hb e.symm)
  refine ⟨?_, ?_, ?_, ?_, ?_⟩
  · rw [dats_snoc]
    exact Own2.snoc O1' L1 (fun i x xs h1 h2 => st2 x xs (st1 x xs (I1 i x xs h1 h2))) (st2 _ _ (st1 _ _ HA))
  · rw [oobs_snoc]
    exact Own2.snoc O2 L2 (fun i x xs h1 h2 => st2 x xs (st1 x xs (I2 i x xs h1 h2))) (st2 _ _ (st1 _ _ HB))
  · exact fun b h1 h2 => (P2 b h2).elim (fun h => sep b h1 h) (fun h => by have := O1.lt b h1; omega)
  · have hg : ∀ i v, W.cell? ⟨w.heap.size, i, none⟩ = some v → w2.cell? ⟨w.heap.size, i, none⟩ = some v := fun i v h => by
      have h1 : wr.cell? ⟨w.heap.size, i, none⟩ = some v := cell_stays BQ h
      have h2 : w1.cell? ⟨w.heap.size, i, none⟩ = some v := G1.cell h1 (fun e => by have := K1.block _ e.symm; simp at this; omega)
      exact G2.cell h2 (fun e => by have := K2'.block _ e.symm; simp at this; omega)
    exact ⟨hg _ _ GE.1, hg _ _ GE.2.1, hg _ _ GE.2.2.1, hg _ _ GE.2.2.2.1, hg _ _ GE.2.2.2.2⟩
  · exact ((BW.trans (BQ.mono BW.size)).grown G1 (Nat.le_trans BW.size BQ.size) (fun b hb => by have := K1.block b hb; omega)).grown G2 (Nat.le_trans (Nat.le_trans BW.size BQ.size) G1.size) (fun b hb => by have := K2'.block b hb; omega)

theorem Sectors_any (c l kk p s n : Int) (odd : Bool) (w : World) :
    Calls Try.prog 26 #[.agg #[.int .i64 c, .int .i64 l, .int .i64 kk, .int .i64 p, .int .i64 s], .int .i64 n, .bool odd] w fun e w' => ∃ v1 v2, e = .returned (.tuple #[v1, v2]) ∧ Sect w' w.heap.size v1 (dats n (few s)) ∧ Sect w' w.heap.size v2 (oobs n odd (few s)) ∧ Below w.heap.size w w' := by
  have HG := Lib.hid (geo_new w 23 c l kk p s)
  have HB := Lib.hid ((Below.refl w.heap.size w).alloc (Nat.le_refl _) (.cells #[.int .i64 c, .int .i64 l, .int .i64 kk, .int .i64 p, .int .i64 s] 23))
  have hm1 : ∀ w : World, (Instr.makeSlice 47 (.int .i64 16) (.int .i64 16)).run Try.prog w = .ok (.slice (some ⟨w.heap.size, 0, none⟩) 16 16) (w.alloc (.cells ((List.replicate 16 (0 : UInt8)).map cellOf).toArray 5)) := fun w => run_make_bytes (P := Try.prog) w 47 5 Try.underlying47 info8 .i64 .i64 16 (by omega)
  have hm2 : ∀ w : World, (Instr.makeSlice 47 (.int .i64 17) (.int .i64 17)).run Try.prog w = .ok (.slice (some ⟨w.heap.size, 0, none⟩) 17 17) (w.alloc (.cells ((List.replicate 17 (0 : UInt8)).map cellOf).toArray 5)) := fun w => run_make_bytes (P := Try.prog) w 47 5 Try.underlying47 info8 .i64 .i64 17 (by omega)
  obtain ⟨cs1, hcs1⟩ : ∃ cs, cs = ((List.replicate 16 (0 : UInt8)).map cellOf).toArray := ⟨_, rfl⟩
  obtain ⟨cs2, hcs2⟩ : ∃ cs, cs = ((List.replicate 17 (0 : UInt8)).map cellOf).toArray := ⟨_, rfl⟩
  rw [← hcs1] at hm1
  rw [← hcs2] at hm2
  have HC1 := Lib.hid hcs1
  have HC2 := Lib.hid hcs2
  clear hcs1 hcs2
  go_enter Try.func26, Try.ntmps26
  go_wp2
  go_loopw [8, 9, 10] (fun v1 v2 i wr => ∃ k : Nat, i = .int .i64 k ∧ k ≤ few s ∧ Sect wr (w.heap.size + 1) v1 (dats n k) ∧ Sect wr (w.heap.size + 1) v2 (oobs n odd k) ∧ (∀ b, v1.ownBlock = some b → v2.ownBlock ≠ some b) ∧ Geo wr w.heap.size c l kk p s ∧ Below w.heap.size w wr) (fun _ _ i _ => few s - (intOf i).toNat)
  case atStart => exact ⟨0, rfl, by omega, own2_nil _ _ _ _, own2_nil _ _ _ _, fun b h => by simp [Value.ownBlock] at h, HG.out, HB.out⟩
  case round =>
    obtain ⟨W, rfl⟩ : ∃ W, W = wr := ⟨_, rfl⟩
    obtain ⟨k, rfl, hk, hv1, hv2, hne, hg, hb⟩ := hrel
    obtain ⟨vs1, ho1, hl1, hi1⟩ := hv1
    obtain ⟨vs2, ho2, hl2, hi2⟩ := hv2
    obtain ⟨A1, c1, rfl, _, _, _⟩ := ho1.reads
    obtain ⟨A2, c2, rfl, _, _, _⟩ := ho2.reads
    have hg4 := hg.2.2.2.2
    have HO1 := Lib.hid (And.intro ho1 (And.intro hl1 hi1))
    have HO2 := Lib.hid (And.intro ho2 (And.intro hl2 hi2))
    have HGE := Lib.hid hg
    have HBW := Lib.hid hb
    have HNE := Lib.hid hne
    clear ho1 hl1 hi1 ho2 hl2 hi2 hg hb hne
    generalize vs1.length = n1 at *
    generalize vs2.length = n2 at *
    by_cases hlt : k < few s
    · have hks : (k : Int) < s := by unfold few at hlt; omega
      have hk4 : (k : Int) < 4 := by unfold few at hlt; omega
      go_upto_region 7 with fail
      refine at_wld ?_
      intro X hX
      have hA : Own X W.heap.size 5 (.slice (some ⟨W.heap.size, 0, none⟩) 16 16) (part (fD n k) 0 16) := by
        rw [hX, part_start, HC1.out]
        exact (own_made W 5 16 (by decide)).alloc _
      have hB : Own X W.heap.size 5 (.slice (some ⟨W.heap.size + 1, 0, none⟩) 17 17) (part (fO n k) 0 17) := by
        have h := own_made (W.alloc (.cells cs1 5)) 5 17 (by decide)
        have hs : (W.alloc (.cells cs1 5)).heap.size = W.heap.size + 1 := by simp
        rw [hs] at h
        rw [hX, part_start, HC2.out]
        exact h.le (Nat.le_succ _)
      have hbX : Below W.heap.size W X := by rw [hX]; exact ((Below.refl _ _).alloc (Nat.le_refl _) _).alloc (by simp) _
      have HX := Lib.hid (And.intro hA (And.intro hB hbX))
      clear hX hA hB hbX hm1 hm2
      go_wp2
      go_loopw [13] (fun j w2 => ∃ q : Nat, j = .int .i64 q ∧ q ≤ 16 ∧ Own w2 W.heap.size 5 (.slice (some ⟨W.heap.size, 0, none⟩) 16 16) (part (fD n k) q 16) ∧ Own w2 W.heap.size 5 (.slice (some ⟨W.heap.size + 1, 0, none⟩) 17 17) (part (fO n k) q 17) ∧ Below W.heap.size W w2) (fun j _ => 16 - (intOf j).toNat)
      case atStart => exact ⟨0, rfl, by omega, HX.out⟩
      case round =>
        obtain ⟨q, rfl, hq, hA, hB, hbq⟩ := hrel
        by_cases hql : q < 16
        · have hcA := hA.cell (i := q) (by rw [part_len]; exact hql)
          have hcB := hB.cell (i := q) (by rw [part_len]; omega)
          obtain ⟨hcA, hfA⟩ := hcA
          obtain ⟨hcB, hfB⟩ := hcB
          unfold cellOf at hcA hcB
          have HQ := Lib.hid (And.intro hA (And.intro hB hbq))
          clear hA hB hbq
          go_wp2
          go_roundw
          case measure => simp [intOf]; omega
          case rel =>
            obtain ⟨hA, hB, hbq⟩ := HQ.out
            refine ⟨q + 1, by go_num, by omega, ?_, ?_, (hbq.setCell (by simp) _).setCell (by simp) _⟩
            · rw [fD_cell, ← part_set]
              exact (hA.set q (fD n k q)).keep fun b hb => Below.heap_setCell _ _ _ _ (by simp [Value.ownBlock] at hb; subst hb; simp)
            · rw [fO_cell n k q (by omega), ← part_set]
              exact (hB.keep fun b hb => Below.heap_setCell _ _ _ _ (by simp [Value.ownBlock] at hb; subst hb; simp)).set q (fO n k q)
        · obtain rfl : q = 16 := by omega
          have hk6 : k ≤ 4 := by omega
          by_cases ho : odd = true
          · by_cases hk0 : k = 0
            · have hof : odd = true := ho
              subst hof
              obtain rfl : k = 0 := hk0
              have hB2 : Own wr W.heap.size 5 (.slice (some ⟨W.heap.size + 1, 0, none⟩) 16 17) (secO n true 0) := by
                unfold secO
                rw [if_pos ⟨rfl, rfl⟩]
                exact own_take hB 16 (by rw [part_len]; omega)
              obtain ⟨ho1, hl1, hi1⟩ := HO1.out
              replace hl1 := ho1.len.trans hl1
              obtain ⟨ho2, hl2, hi2⟩ := HO2.out
              replace hl2 := ho2.len.trans hl2
              have k1 : OwnV wr (w.heap.size + 1) 47 (.slice A1 n1 c1) vs1 := ho1.keep fun b hb => hbq.block b (ho1.lt b hb)
              have k2 : OwnV wr (w.heap.size + 1) 47 (.slice A2 n2 c2) vs2 := ho2.keep fun b hb => hbq.block b (ho2.lt b hb)
              have hsw : w.heap.size + 1 ≤ W.heap.size := lt_of_cell HGE.out.1
              have i1 : ∀ (i : Nat) x xs, vs1[i]? = some x → (dats n 0)[i]? = some xs → Own wr (w.heap.size + 1) 5 x xs := fun i x xs h1 h2 => (hi1 i x xs h1 h2).keep fun b hb => hbq.block b ((hi1 i x xs h1 h2).lt b hb)
              have i2 : ∀ (i : Nat) x xs, vs2[i]? = some x → (oobs n true 0)[i]? = some xs → Own wr (w.heap.size + 1) 5 x xs := fun i x xs h1 h2 => (hi2 i x xs h1 h2).keep fun b hb => hbq.block b ((hi2 i x xs h1 h2).lt b hb)
              have hv1l : vs1.length ≤ 1000 := by rw [hl1]; simp [dats] <;> omega
              have hv2l : vs2.length ≤ 1000 := by rw [hl2]; simp [oobs] <;> omega
              have hbs := hbq.size
              have hbase : w.heap.size + 1 ≤ wr.heap.size := by omega
              have K1 := Lib.hid k1
              have K2 := Lib.hid k2
              have I1 := Lib.hid i1
              have I2 := Lib.hid i2
              have HA := Lib.hid (hA.le hsw)
              have HB2 := Lib.hid (hB2.le hsw)
              have HL1 := Lib.hid hl1
              have HL2 := Lib.hid hl2
              have HBQ := Lib.hid hbq
              have HLA := Lib.hid (hA.lt W.heap.size (by rfl))
              have HLB := Lib.hid (hB2.lt (W.heap.size + 1) (by rfl))
              clear ho1 hl1 hi1 ho2 hl2 hi2 k1 k2 i1 i2 hA hB hB2 hbq hsw
              go_wp2_with (at_builtin; refine wpList_append_slice _ rfl _ _ _ rfl (w.heap.size + 1) 47 Try.underlying58 infoS (.slice A1 n1 c1) vs1 rfl K1.out (some ⟨W.heap.size, 0, none⟩) 16 16 rfl (by omega) hbase ?_)
              intro v1' w1 ho1 hg1 hl1
              have HG1 := Lib.hid ((World.grownBy_alloc wr (.cells #[.slice (some ⟨W.heap.size, 0, none⟩) 16 16] 47) _).trans hg1)
              have hs1 := HG1.out.size
              obtain ⟨A1', c1', rfl, _, _, _⟩ := ho1.reads
              have HO1' := Lib.hid ho1
              have HLO1 := Lib.hid hl1
              have K2' : Hid (OwnV w1 (w.heap.size + 1) 47 (.slice A2 n2 c2) vs2) := Lib.hid (K2.out.keep fun b hb => HG1.out.block b (K2.out.lt b hb) (fun e => HNE.out b e.symm hb))
              clear ho1 hg1 hl1
              generalize (vs1 ++ [Value.slice (some ⟨W.heap.size, 0, none⟩) 16 16]).length = m1 at *
              go_wp2_with (at_builtin; refine wpList_append_slice _ rfl _ _ _ rfl (w.heap.size + 1) 47 Try.underlying58 infoS (.slice A2 n2 c2) vs2 rfl K2'.out (some ⟨W.heap.size + 1, 0, none⟩) 16 17 rfl (by omega) (by omega) ?_)
              intro v2' w2 ho2 hg2 hl2
              have HG2 := Lib.hid ((World.grownBy_alloc w1 (.cells #[.slice (some ⟨W.heap.size + 1, 0, none⟩) 16 17] 47) _).trans hg2)
              obtain ⟨A2', c2', rfl, _, _, _⟩ := ho2.reads
              have HO2' := Lib.hid ho2
              have HLO2 := Lib.hid hl2
              clear ho2 hg2 hl2
              generalize (vs2 ++ [Value.slice (some ⟨W.heap.size + 1, 0, none⟩) 16 17]).length = m2 at *
              go_wp2
              go_roundw
              case measure => simp [intOf]; omega
              case rel =>
                exact ⟨0 + 1, by go_num, by omega, sect_step K1.out K2.out HNE.out I1.out I2.out HL1.out HL2.out HA.out HB2.out HG1.out HG2.out HO1'.out HO2'.out HLO1.out HLO2.out HBW.out HBQ.out HGE.out (Nat.lt_succ_self _)⟩
            · skip
              have hof : odd = true := ho
              subst hof
              have hB2 : Own wr W.heap.size 5 (.slice (some ⟨W.heap.size + 1, 0, none⟩) 17 17) (secO n true k) := by
                unfold secO
                rw [if_neg (fun h => hk0 h.2)]
                exact hB
              have hkb : ((k : Int) == 0) = false := by simp; omega
              obtain ⟨ho1, hl1, hi1⟩ := HO1.out
              replace hl1 := ho1.len.trans hl1
              obtain ⟨ho2, hl2, hi2⟩ := HO2.out
              replace hl2 := ho2.len.trans hl2
              have k1 : OwnV wr (w.heap.size + 1) 47 (.slice A1 n1 c1) vs1 := ho1.keep fun b hb => hbq.block b (ho1.lt b hb)
              have k2 : OwnV wr (w.heap.size + 1) 47 (.slice A2 n2 c2) vs2 := ho2.keep fun b hb => hbq.block b (ho2.lt b hb)
              have hsw : w.heap.size + 1 ≤ W.heap.size := lt_of_cell HGE.out.1
              have i1 : ∀ (i : Nat) x xs, vs1[i]? = some x → (dats n k)[i]? = some xs → Own wr (w.heap.size + 1) 5 x xs := fun i x xs h1 h2 => (hi1 i x xs h1 h2).keep fun b hb => hbq.block b ((hi1 i x xs h1 h2).lt b hb)
              have i2 : ∀ (i : Nat) x xs, vs2[i]? = some x → (oobs n true k)[i]? = some xs → Own wr (w.heap.size + 1) 5 x xs := fun i x xs h1 h2 => (hi2 i x xs h1 h2).keep fun b hb => hbq.block b ((hi2 i x xs h1 h2).lt b hb)
              have hv1l : vs1.length ≤ 1000 := by rw [hl1]; simp [dats] <;> omega
              have hv2l : vs2.length ≤ 1000 := by rw [hl2]; simp [oobs] <;> omega
              have hbs := hbq.size
              have hbase : w.heap.size + 1 ≤ wr.heap.size := by omega
              have K1 := Lib.hid k1
              have K2 := Lib.hid k2
              have I1 := Lib.hid i1
              have I2 := Lib.hid i2
              have HA := Lib.hid (hA.le hsw)
              have HB2 := Lib.hid (hB2.le hsw)
              have HL1 := Lib.hid hl1
              have HL2 := Lib.hid hl2
              have HBQ := Lib.hid hbq
              have HLA := Lib.hid (hA.lt W.heap.size (by rfl))
              have HLB := Lib.hid (hB2.lt (W.heap.size + 1) (by rfl))
              clear ho1 hl1 hi1 ho2 hl2 hi2 k1 k2 i1 i2 hA hB hB2 hbq hsw
              go_wp2_with (at_builtin; refine wpList_append_slice _ rfl _ _ _ rfl (w.heap.size + 1) 47 Try.underlying58 infoS (.slice A1 n1 c1) vs1 rfl K1.out (some ⟨W.heap.size, 0, none⟩) 16 16 rfl (by omega) hbase ?_)
              intro v1' w1 ho1 hg1 hl1
              have HG1 := Lib.hid ((World.grownBy_alloc wr (.cells #[.slice (some ⟨W.heap.size, 0, none⟩) 16 16] 47) _).trans hg1)
              have hs1 := HG1.out.size
              obtain ⟨A1', c1', rfl, _, _, _⟩ := ho1.reads
              have HO1' := Lib.hid ho1
              have HLO1 := Lib.hid hl1
              have K2' : Hid (OwnV w1 (w.heap.size + 1) 47 (.slice A2 n2 c2) vs2) := Lib.hid (K2.out.keep fun b hb => HG1.out.block b (K2.out.lt b hb) (fun e => HNE.out b e.symm hb))
              clear ho1 hg1 hl1
              generalize (vs1 ++ [Value.slice (some ⟨W.heap.size, 0, none⟩) 16 16]).length = m1 at *
              go_wp2_with (at_builtin; refine wpList_append_slice _ rfl _ _ _ rfl (w.heap.size + 1) 47 Try.underlying58 infoS (.slice A2 n2 c2) vs2 rfl K2'.out (some ⟨W.heap.size + 1, 0, none⟩) 17 17 rfl (by omega) (by omega) ?_)
              intro v2' w2 ho2 hg2 hl2
              have HG2 := Lib.hid ((World.grownBy_alloc w1 (.cells #[.slice (some ⟨W.heap.size + 1, 0, none⟩) 17 17] 47) _).trans hg2)
              obtain ⟨A2', c2', rfl, _, _, _⟩ := ho2.reads
              have HO2' := Lib.hid ho2
              have HLO2 := Lib.hid hl2
              clear ho2 hg2 hl2
              generalize (vs2 ++ [Value.slice (some ⟨W.heap.size + 1, 0, none⟩) 17 17]).length = m2 at *
              go_wp2
              go_roundw
              case measure => simp [intOf]; omega
              case rel =>
                exact ⟨k + 1, by go_num, by omega, sect_step K1.out K2.out HNE.out I1.out I2.out HL1.out HL2.out HA.out HB2.out HG1.out HG2.out HO1'.out HO2'.out HLO1.out HLO2.out HBW.out HBQ.out HGE.out (Nat.lt_succ_self _)⟩
          · skip
            have hof : odd = false := by simpa using ho
            subst hof
            have hB2 : Own wr W.heap.size 5 (.slice (some ⟨W.heap.size + 1, 0, none⟩) 17 17) (secO n false k) := by
              unfold secO
              rw [if_neg (fun h => by cases h.1)]
              exact hB
            obtain ⟨ho1, hl1, hi1⟩ := HO1.out
            replace hl1 := ho1.len.trans hl1
            obtain ⟨ho2, hl2, hi2⟩ := HO2.out
            replace hl2 := ho2.len.trans hl2
            have k1 : OwnV wr (w.heap.size + 1) 47 (.slice A1 n1 c1) vs1 := ho1.keep fun b hb => hbq.block b (ho1.lt b hb)
            have k2 : OwnV wr (w.heap.size + 1) 47 (.slice A2 n2 c2) vs2 := ho2.keep fun b hb => hbq.block b (ho2.lt b hb)
            have hsw : w.heap.size + 1 ≤ W.heap.size := lt_of_cell HGE.out.1
            have i1 : ∀ (i : Nat) x xs, vs1[i]? = some x → (dats n k)[i]? = some xs → Own wr (w.heap.size + 1) 5 x xs := fun i x xs h1 h2 => (hi1 i x xs h1 h2).keep fun b hb => hbq.block b ((hi1 i x xs h1 h2).lt b hb)
            have i2 : ∀ (i : Nat) x xs, vs2[i]? = some x → (oobs n false k)[i]? = some xs → Own wr (w.heap.size + 1) 5 x xs := fun i x xs h1 h2 => (hi2 i x xs h1 h2).keep fun b hb => hbq.block b ((hi2 i x xs h1 h2).lt b hb)
            have hv1l : vs1.length ≤ 1000 := by rw [hl1]; simp [dats] <;> omega
            have hv2l : vs2.length ≤ 1000 := by rw [hl2]; simp [oobs] <;> omega
            have hbs := hbq.size
            have hbase : w.heap.size + 1 ≤ wr.heap.size := by omega
            have K1 := Lib.hid k1
            have K2 := Lib.hid k2
            have I1 := Lib.hid i1
            have I2 := Lib.hid i2
            have HA := Lib.hid (hA.le hsw)
            have HB2 := Lib.hid (hB2.le hsw)
            have HL1 := Lib.hid hl1
            have HL2 := Lib.hid hl2
            have HBQ := Lib.hid hbq
            have HLA := Lib.hid (hA.lt W.heap.size (by rfl))
            have HLB := Lib.hid (hB2.lt (W.heap.size + 1) (by rfl))
            clear ho1 hl1 hi1 ho2 hl2 hi2 k1 k2 i1 i2 hA hB hB2 hbq hsw
            go_wp2_with (at_builtin; refine wpList_append_slice _ rfl _ _ _ rfl (w.heap.size + 1) 47 Try.underlying58 infoS (.slice A1 n1 c1) vs1 rfl K1.out (some ⟨W.heap.size, 0, none⟩) 16 16 rfl (by omega) hbase ?_)
            intro v1' w1 ho1 hg1 hl1
            have HG1 := Lib.hid ((World.grownBy_alloc wr (.cells #[.slice (some ⟨W.heap.size, 0, none⟩) 16 16] 47) _).trans hg1)
            have hs1 := HG1.out.size
            obtain ⟨A1', c1', rfl, _, _, _⟩ := ho1.reads
            have HO1' := Lib.hid ho1
            have HLO1 := Lib.hid hl1
            have K2' : Hid (OwnV w1 (w.heap.size + 1) 47 (.slice A2 n2 c2) vs2) := Lib.hid (K2.out.keep fun b hb => HG1.out.block b (K2.out.lt b hb) (fun e => HNE.out b e.symm hb))
            clear ho1 hg1 hl1
            generalize (vs1 ++ [Value.slice (some ⟨W.heap.size, 0, none⟩) 16 16]).length = m1 at *
            go_wp2_with (at_builtin; refine wpList_append_slice _ rfl _ _ _ rfl (w.heap.size + 1) 47 Try.underlying58 infoS (.slice A2 n2 c2) vs2 rfl K2'.out (some ⟨W.heap.size + 1, 0, none⟩) 17 17 rfl (by omega) (by omega) ?_)
            intro v2' w2 ho2 hg2 hl2
            have HG2 := Lib.hid ((World.grownBy_alloc w1 (.cells #[.slice (some ⟨W.heap.size + 1, 0, none⟩) 17 17] 47) _).trans hg2)
            obtain ⟨A2', c2', rfl, _, _, _⟩ := ho2.reads
            have HO2' := Lib.hid ho2
            have HLO2 := Lib.hid hl2
            clear ho2 hg2 hl2
            generalize (vs2 ++ [Value.slice (some ⟨W.heap.size + 1, 0, none⟩) 17 17]).length = m2 at *
            go_wp2
            go_roundw
            case measure => simp [intOf]; omega
            case rel =>
              exact ⟨k + 1, by go_num, by omega, sect_step K1.out K2.out HNE.out I1.out I2.out HL1.out HL2.out HA.out HB2.out HG1.out HG2.out HO1'.out HO2'.out HLO1.out HLO2.out HBW.out HBQ.out HGE.out (Nat.lt_succ_self _)⟩
    · obtain rfl : k = few s := by omega
      have hks : decide ((few s : Int) < s) = false ∨ (decide ((few s : Int) < s) = true ∧ decide ((few s : Int) < 4) = false) := by unfold few at hlt ⊢; simp; omega
      rcases hks with hks | ⟨hks, hks2⟩
      · go_wp2
        go_ret2
        obtain ⟨ho1, hl1, hi1⟩ := HO1.out
        replace hl1 := ho1.len.trans hl1
        obtain ⟨ho2, hl2, hi2⟩ := HO2.out
        replace hl2 := ho2.len.trans hl2
        exact ⟨_, _, rfl, Own2.le ⟨vs1, ho1, hl1, hi1⟩ (Nat.le_succ _), Own2.le ⟨vs2, ho2, hl2, hi2⟩ (Nat.le_succ _), HBW.out⟩
      · go_wp2
        go_ret2
        obtain ⟨ho1, hl1, hi1⟩ := HO1.out
        replace hl1 := ho1.len.trans hl1
        obtain ⟨ho2, hl2, hi2⟩ := HO2.out
        replace hl2 := ho2.len.trans hl2
        exact ⟨_, _, rfl, Own2.le ⟨vs1, ho1, hl1, hi1⟩ (Nat.le_succ _), Own2.le ⟨vs2, ho2, hl2, hi2⟩ (Nat.le_succ _), HBW.out⟩

end Go.Proofs.Ytlmdlhfdacmcnaa.NandPkg
