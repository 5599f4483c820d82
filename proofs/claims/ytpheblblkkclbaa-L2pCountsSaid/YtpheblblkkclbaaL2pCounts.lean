/-
  L2pCounts holds: behind any calls Live and Get undo one another; the lines' Valid together are Many; each bit that is on is a sector's; for every geometry, number of sectors and all calls. No condition.
-/
import Derived.Test.YtpheblblkkclbaaL2pKit
import Derived.Test.YtpheblblkkclbaaLawKit
import Derived.OpenShut
import Derived.Test.YtpheblblkkclbaaL2pOps
import Derived.Deep.RegionHeld3
namespace Go.Proofs.Ytpheblblkkclbaa.l2pCounts
open Go.RowKit Go.ChangeShapes Go.WideShapes L2p L2pPkg L2pLaw
open Nand (Shape)
set_option maxRecDepth 4000

theorem cell_geo_keep {w w' : World} {x : Addr} {v : Value} {B : Nat} {c l k p s : Int} (h : w.cell? x = some v ∧ Geo w B c l k p s) (hb : Below w.heap.size w w') : w'.cell? x = some v ∧ Geo w' B c l k p s := ⟨cell_stays hb h.1, geo_keep h.2 hb⟩
theorem cells3 {w : World} {b : Nat} {x y z : Value} {t : TypeId} (h : w.heap[b]? = some (.cells #[x, y, z] t (0, 0))) : w.cell? ⟨b, 0, none⟩ = some x ∧ w.cell? ⟨b, 1, none⟩ = some y ∧ w.cell? ⟨b, 2, none⟩ = some z := by
  refine ⟨?_, ?_, ?_⟩ <;> simp [World.cell?, h]
theorem opc {w : World} {B b o : Nat} {x0 x1 x2 x3 x4 x5 x6 : Int} (h : L2pOps.OpAt w B b o x0 x1 x2 x3 x4 x5 x6) : w.cell? ⟨b, o + 1, none⟩ = some (.int .i64 x1) ∧ w.cell? ⟨b, o + 4, none⟩ = some (.int .i64 x4) ∧ w.cell? ⟨b, o + 4 + 1, none⟩ = some (.int .i64 x5) ∧ w.cell? ⟨b, o + 4 + 2, none⟩ = some (.int .i64 x6) := ⟨h.c1, h.c4, h.c5, h.c6⟩
theorem opm {w : World} {B b o : Nat} {x0 x1 x2 x3 x4 x5 x6 : Int} (h : L2pOps.OpAt w B b o x0 x1 x2 x3 x4 x5 x6) : w.cell? ⟨b, o + 1, none⟩ = some (.int .i64 x1) ∧ w.cell? ⟨b, o + 2, none⟩ = some (.int .i64 x2) ∧ w.cell? ⟨b, o + 3, none⟩ = some (.int .i64 x3) := ⟨h.c1, h.c2, h.c3⟩

theorem get_true {xs : List UInt8} {i : Int} (h : Bits.get xs i = true) (A : Option Addr) (n c B : Nat) (w : World) (hn : n ≤ 1000) (hr : Bytes w B A n xs) :
    Calls Try.prog 22 #[.slice A n c, .int .i64 i] w fun e w' => e = .returned (.bool true) ∧ Below w.heap.size w w' := by
  have := BitsPkg.get_is A n c B xs i w (by omega) hr
  rwa [h] at this

theorem right_true {xs : List UInt8} {N : Int} (h : BitsPkg.Bits.Right xs N) (A : Option Addr) (n c B : Nat) (w : World) (hn : n ≤ 1000) (hr : Bytes w B A n xs) (hB : B ≤ w.heap.size) :
    Calls Try.prog 24 #[.slice A n c, .int .i64 N] w fun e w' => e = .returned (.bool true) ∧ Below w.heap.size w w' := by
  refine (BitsPkg.right_any A n c B xs N w (by omega) hr hB).mono ?_
  rintro e w' ⟨t, rfl, ht, hb⟩
  rw [ht.2 h]
  exact ⟨rfl, hb⟩

theorem count_of {xs : List UInt8} {z : Nat} (A : Option Addr) (n c B : Nat) (w : World) (hn : n ≤ 1000) (hr : Bytes w B A n xs) (hB : B ≤ w.heap.size) (hz : (Bits.ons xs (8 * n)).length = z) :
    Calls Try.prog 25 #[.slice A n c] w fun e w' => e = .returned (.int .i64 (z : Int)) ∧ Below w.heap.size w w' := by
  rw [← hz]
  exact BitsPkg.count_any A n c B xs w (by omega) hr hB

theorem size_L {G : Shape} (hG : G.Ok) : ((BitsPkg.Bits.size G.L : Nat) : Int) = (G.L + 7) / 8 := BitsPkg.Bits.size_in (by have := hG.l0; omega) (by have := hG.l1; omega)

/-- The bit of an address that has a sector. -/
theorem bit_of {G : Shape} (hG : G.Ok) {st : St} {n : Nat} {a : Int} (h0 : 0 ≤ a) (h1 : a < G.N) (hw : who st n a ≠ -1) : Bits.get (bitsAt st n G (a / G.L)) (a % G.L) = true := by
  have hl0 := hG.l0
  have hq0 : 0 ≤ a / G.L := Int.ediv_nonneg h0 (by omega)
  have hq1 : a / G.L < G.k := by
    rw [hG.n] at h1
    exact Int.ediv_lt_of_lt_mul (by omega) h1
  have hm0 : 0 ≤ a % G.L := Int.emod_nonneg _ (by omega)
  have hm1 : a % G.L < G.L := Int.emod_lt_of_pos _ (by omega)
  have hs := size_L hG
  have hd := Int.mul_ediv_add_emod a G.L
  rw [Int.mul_comm] at hd
  unfold bitsAt
  rw [if_pos ⟨hq0, hq1⟩]
  obtain ⟨i, hi⟩ := Int.eq_ofNat_of_zero_le hm0
  rw [hi] at hm1 hd ⊢
  rw [Bits.get_nat, bm_bit _ _ _ _ _ (by omega), hd]
  simp only [decide_eq_true_eq]
  exact ⟨by omega, hw⟩

/-- A line's bitmap is one, and counts its sectors. -/
theorem right_of {G : Shape} (hG : G.Ok) {st : St} {n : Nat} {line : Int} (h0 : 0 ≤ line) (h1 : line < G.k) : BitsPkg.Bits.Right (bitsAt st n G line) G.L ∧ (bitsAt st n G line).length = BitsPkg.Bits.size G.L ∧ (Bits.ons (bitsAt st n G line) (8 * BitsPkg.Bits.size G.L)).length = validAt st n G line := by
  have hl0 := hG.l0
  have hl1 := hG.l1
  have hs := size_L hG
  unfold bitsAt validAt
  rw [if_pos ⟨h0, h1⟩, if_pos ⟨h0, h1⟩]
  refine ⟨⟨by omega, by omega, bm_len _ _ _ _ _, fun i hi _ => ?_⟩, bm_len _ _ _ _ _, ons_bm _ _ _ _ _ (by omega)⟩
  obtain ⟨j, rfl⟩ := Int.eq_ofNat_of_zero_le (show 0 ≤ i by omega)
  rw [Bits.get_nat, bm_bit _ _ _ _ _ (by omega)]
  simp only [decide_eq_false_iff_not]
  omega

/-- The lines' sectors, one line behind the other. -/
theorem valid_line {G : Shape} (hG : G.Ok) (st : St) (n : Nat) {t : Nat} (ht : (t : Int) < G.k) : valid st n 0 ((t + 1) * G.L.toNat) = valid st n 0 (t * G.L.toNat) + validAt st n G t := by
  have hl0 := hG.l0
  unfold validAt
  rw [if_pos ⟨by omega, ht⟩, Nat.add_mul, Nat.one_mul, valid_add]
  congr 2
  have : ((G.L.toNat : Nat) : Int) = G.L := by omega
  rw [Int.natCast_mul, this]
  omega
theorem valid_all {G : Shape} (hG : G.Ok) {st : St} {n : Nat} (h : Inv st n G.N) : valid st n 0 (G.k.toNat * G.L.toNat) = many st n := by
  have hn0 := hG.n0
  have hl0 := hG.l0
  have hk : 1 ≤ G.k := hG.may.2.2.2.2.1
  have e : ((G.k.toNat * G.L.toNat : Nat) : Int) = G.N := by
    rw [Int.natCast_mul, show ((G.k.toNat : Nat) : Int) = G.k by omega, show ((G.L.toNat : Nat) : Int) = G.L by omega, hG.n]
  exact valid_many (by rw [e]; exact h)

set_option maxHeartbeats 8000000 in
theorem walk (c l k p s num : Int) (A : Option Addr) (m cp : Nat) (w : World) (hb0 : -9223372036854775808 ≤ num) (hb1 : num ≤ 9223372036854775807) (hmc : m ≤ cp) (hcm : cp ≤ maxLen) (hr : L2pOps.Ops w w.heap.size A m) :
    Calls Try.prog 5 #[.agg #[.int .i64 c, .int .i64 l, .int .i64 k, .int .i64 p, .int .i64 s], .int .i64 num, .slice A m cp] w fun e w' => e = .returned (.bool true) ∧ Below w.heap.size w w' := by
  have HOPS := Lib.hid hr
  have hn := Nat.le_trans hmc hcm
  clear hr hmc hcm
  unfold maxLen at hn
  by_cases hok : Geom.ok c l k p s
  rotate_left
  · have HN := Lib.hid (fun w => New_geo c l k p s hok num w)
    clear hok
    obtain ⟨og, hog⟩ : ∃ o, o = Obj.cells #[.int .i64 c, .int .i64 l, .int .i64 k, .int .i64 p, .int .i64 s] 23 := ⟨_, rfl⟩
    obtain ⟨a, ha⟩ : ∃ a, a = w.alloc og := ⟨_, rfl⟩
    have hwa : Below w.heap.size w a := by rw [ha]; exact (Below.refl _ _).alloc (Nat.le_refl _) _
    have hgeo : Geo a w.heap.size c l k p s := by rw [ha, hog]; exact geo_new w _ _ _ _ _ _
    have HWA := Lib.hid hwa
    have HGEO := Lib.hid hgeo
    have HA0 := Lib.hid ha
    have HAW := Lib.hid (fun w => awake_any w)
    clear hwa hgeo ha
    go_enter Try.func5, Try.ntmps5
    go_wp2_with fail
    rw [← hog, ← HA0.out]
    refine (HAW.out a).mono ?_
    rintro e1 wa ⟨rfl, hb⟩
    have HA := Lib.hid hb
    clear hb
    obtain ⟨k0, k1, k2, k3, k4⟩ := geo_keep HGEO.out HA.out
    go_wp2_with fail
    refine (HN.out _).mono ?_
    rintro e2 w2 ⟨rfl, hb⟩
    have HB2 := Lib.hid (HWA.out.trans ((below_then HA.out hb).mono HWA.out.size))
    clear hb
    go_wp2
    go_ret
    exact ⟨rfl, HB2.out⟩
  obtain ⟨G, hG, rfl, rfl, rfl, rfl, rfl⟩ : ∃ G : Shape, G.Ok ∧ G.c = c ∧ G.l = l ∧ G.k = k ∧ G.p = p ∧ G.s = s := ⟨⟨c, l, k, p, s, _, _, _, _⟩, Geom.sizes hok, rfl, rfl, rfl, rfl, rfl⟩
  clear hok
  by_cases hnum : 1 ≤ num ∧ num ≤ 4096 ∧ num ≤ G.N
  rotate_left
  · have HN := Lib.hid (fun w => New_num hG num hnum w)
    clear hG hnum
    obtain ⟨og, hog⟩ : ∃ o, o = Obj.cells #[.int .i64 G.c, .int .i64 G.l, .int .i64 G.k, .int .i64 G.p, .int .i64 G.s] 23 := ⟨_, rfl⟩
    obtain ⟨a, ha⟩ : ∃ a, a = w.alloc og := ⟨_, rfl⟩
    have hwa : Below w.heap.size w a := by rw [ha]; exact (Below.refl _ _).alloc (Nat.le_refl _) _
    have hgeo : Geo a w.heap.size G.c G.l G.k G.p G.s := by rw [ha, hog]; exact geo_new w _ _ _ _ _ _
    have HWA := Lib.hid hwa
    have HGEO := Lib.hid hgeo
    have HA0 := Lib.hid ha
    have HAW := Lib.hid (fun w => awake_any w)
    clear hwa hgeo ha
    go_enter Try.func5, Try.ntmps5
    go_wp2_with fail
    rw [← hog, ← HA0.out]
    refine (HAW.out a).mono ?_
    rintro e1 wa ⟨rfl, hb⟩
    have HA := Lib.hid hb
    clear hb
    obtain ⟨k0, k1, k2, k3, k4⟩ := geo_keep HGEO.out HA.out
    go_wp2_with fail
    refine (HN.out _).mono ?_
    rintro e2 w2 ⟨rfl, hb⟩
    have HB2 := Lib.hid (HWA.out.trans ((below_then HA.out hb).mono HWA.out.size))
    clear hb
    go_wp2
    go_ret
    exact ⟨rfl, HB2.out⟩
  obtain ⟨hm0, hm1, hm2⟩ := hnum
  obtain ⟨n, rfl⟩ := Int.eq_ofNat_of_zero_le (show 0 ≤ num by omega)
  obtain ⟨og, hog⟩ : ∃ o, o = Obj.cells #[.int .i64 G.c, .int .i64 G.l, .int .i64 G.k, .int .i64 G.p, .int .i64 G.s] 23 := ⟨_, rfl⟩
  obtain ⟨a, ha⟩ : ∃ a, a = w.alloc og := ⟨_, rfl⟩
  have hwa : Below w.heap.size w a := by rw [ha]; exact (Below.refl _ _).alloc (Nat.le_refl _) _
  have hgeo : Geo a w.heap.size G.c G.l G.k G.p G.s := by rw [ha, hog]; exact geo_new w _ _ _ _ _ _
  have HWA := Lib.hid hwa
  have HGEO := Lib.hid hgeo
  have HA0 := Lib.hid ha
  have HAW := Lib.hid (fun w => awake_any w)
  clear hwa hgeo ha
  have hwas : w.heap.size < a.heap.size := World.block_lt_of_cell? _ _ HGEO.out.1
  have HGE := Lib.hid (fun (w' : World) (hb : Below a.heap.size a w') => geo_keep HGEO.out hb)
  have HG := Lib.hid hG
  have hnb := hG.n1
  clear hG
  go_enter Try.func5, Try.ntmps5
  go_wp2_with fail
  rw [← hog, ← HA0.out]
  refine (HAW.out a).mono ?_
  rintro e1 wa ⟨rfl, hb⟩
  have HA := Lib.hid hb
  clear hb
  obtain ⟨k0, k1, k2, k3, k4⟩ := geo_keep HGEO.out HA.out
  have HN := Lib.hid (New_m HG.out a wa HA.out n (by omega) (by omega) hm2)
  clear hm2
  go_wp2_with fail
  refine HN.out.mono ?_
  rintro e2 w2 ⟨gd, rfl, h⟩
  have H := Lib.hid h
  clear h k0 k1 k2 k3 k4 HN
  have HBW := Lib.hid (fun (w' : World) (hb : Below a.heap.size a w') => show Below w.heap.size w w' from HWA.out.trans (hb.mono HWA.out.size))
  by_cases hn2 : 200 < n
  · go_wp2
    go_ret
    exact ⟨rfl, HBW.out _ H.out.below⟩
  go_wp2
  go_loopw [10] (fun i wr => ∃ (j : Nat) (st : St), i = .int .i64 (j : Int) ∧ j ≤ m ∧ Mine G n a gd st [] wr) (fun i _ => m - (intOf i).toNat)
  case atStart => exact ⟨0, _, rfl, by omega, H.out⟩
  case round =>
    obtain ⟨j, st, rfl, hj, h⟩ := hrel
    replace H := Lib.hid h
    clear h
    by_cases hgo : j < m ∧ j < 100
    · obtain ⟨hlt, hlt2⟩ := hgo
      obtain ⟨b, off', x0, x1, x2, x3, x4, x5, x6, rfl, ho⟩ := HOPS.out j hlt
      have HOP := Lib.hid (fun (w' : World) (hb : Below a.heap.size a w') => ho.keep (HBW.out _ hb))
      obtain ⟨c0, c1, c2, c3, c4, c5, c6, _⟩ := HOP.out _ H.out.below
      clear ho
      have hlt' : (j : Int) < m := by omega
      have HSET := Lib.hid (Set_m HG.out (H.out.on (Below.refl _ _).drew) x1 ⟨x4, x5, x6⟩)
      have HMOV := Lib.hid (Move_m HG.out (H.out.on (Below.refl _ _).drew) x1 x2 x3)
      by_cases hs : x0 = 0 ∨ x0 = 1 ∨ x0 = 2 ∨ x0 = 3
      · rcases hs with rfl | rfl | rfl | rfl
        all_goals
          go_wp2_with fail
          go_region_held3 (fun w' => w'.cell? ⟨b, off' + j * 7 + 1, none⟩ = some (.int .i64 x1) ∧ w'.cell? ⟨b, off' + j * 7 + 4, none⟩ = some (.int .i64 x4) ∧ w'.cell? ⟨b, off' + j * 7 + 4 + 1, none⟩ = some (.int .i64 x5) ∧ w'.cell? ⟨b, off' + j * 7 + 4 + 2, none⟩ = some (.int .i64 x6))
            (first | exact ⟨c1, c4, c5, c6⟩ | exact opc (HOP.out _ h.below))
            (first | (go_at_call 19; refine HSET.out.mono ?_; rintro e3 w3 ⟨rfl, h⟩))
          clear c0 c1 c2 c3 c4 c5 c6
          go_wp2
          go_roundw
          case rel => exact ⟨j + 1, _, by go_num, by omega, h⟩
          case measure => simp [intOf]; omega
      by_cases hm : x0 = 4 ∨ x0 = 5
      · rcases hm with rfl | rfl
        all_goals
          go_wp2_with fail
          go_region_held3 (fun w' => w'.cell? ⟨b, off' + j * 7 + 1, none⟩ = some (.int .i64 x1) ∧ w'.cell? ⟨b, off' + j * 7 + 2, none⟩ = some (.int .i64 x2) ∧ w'.cell? ⟨b, off' + j * 7 + 3, none⟩ = some (.int .i64 x3))
            (first | exact ⟨c1, c2, c3⟩ | exact opm (HOP.out _ h.below))
            (first | (go_at_call 20; refine HMOV.out.mono ?_; rintro e3 w3 ⟨rfl, h⟩))
          clear c0 c1 c2 c3 c4 c5 c6
          go_wp2
          go_roundw
          case rel => exact ⟨j + 1, _, by go_num, by omega, h⟩
          case measure => simp [intOf]; omega
      · have b0 : (x0 == 0) = false := by simp; omega
        have b1 : (x0 == 1) = false := by simp; omega
        have b2 : (x0 == 2) = false := by simp; omega
        have b3 : (x0 == 3) = false := by simp; omega
        have b4 : (x0 == 4) = false := by simp; omega
        have b5 : (x0 == 5) = false := by simp; omega
        clear hs hm
        go_wp2
        go_roundw
        case rel => exact ⟨j + 1, _, by go_num, by omega, H.out⟩
        case measure => simp [intOf]; omega
    · have hstop : decide (j < m) = false ∨ (decide (j < m) = true ∧ decide ((j : Int) < 100) = false) := by
        by_cases h : j < m
        · exact .inr ⟨decide_eq_true (by omega), decide_eq_false (by omega)⟩
        · exact .inl (decide_eq_false (by omega))
      clear hgo
      have HINV := Lib.hid H.out.inv
      rcases hstop with h1 | ⟨h1, h2⟩
      all_goals
        go_wp2
        go_loopw [11, 12] (fun z i wq => ∃ (t y : Nat), i = .int .i64 (t : Int) ∧ z = .int .i64 (y : Int) ∧ t ≤ n ∧ y = many st t ∧ Mine G n a gd st [] wq) (fun _ i _ => n - (intOf i).toNat)
        case atStart => exact ⟨0, 0, rfl, rfl, by omega, rfl, H.out⟩
        case round =>
          obtain ⟨t, y, rfl, rfl, ht, hy, h⟩ := hrel
          replace H := Lib.hid h
          have HY := Lib.hid hy
          have hyt : y ≤ t := by rw [hy]; exact many_le st t
          clear h hy
          by_cases hlt : t < n
          · have hlt' : (t : Int) < n := by omega
            have HGT := Lib.hid (Get_m H.out t)
            have htt : there (t : Int) n := ⟨by omega, by omega⟩
            rw [show getE st n t = st t by unfold getE; rw [if_pos htt]; rfl, show getK n t = 0 by unfold getK; rw [if_pos htt]] at HGT
            clear htt
            go_wp2_with fail
            refine HGT.out.mono ?_
            rintro e4 w4 ⟨rfl, hb⟩
            replace H := Lib.hid (H.out.on hb)
            clear hb HGT
            rcases HINV.out.a_bd hlt with ⟨ha, hoff⟩ | ⟨ha0, ha1, _⟩
            · have HY2 := Lib.hid (show y = many st (t + 1) by rw [many_succ, if_pos ha, ← HY.out]; rfl)
              rw [hoff]
              have hq := H.out.on ((Below.refl _ _).alloc (Nat.le_refl _) (.cells #[.int .i64 (-1), .int .i64 0, .int .i64 0] 30))
              clear ha hoff
              rw [show entV off = .agg #[.int .i64 (-1), .int .i64 0, .int .i64 0] from rfl]
              go_wp2
              go_roundw
              case rel => exact ⟨t + 1, y, by go_num, rfl, by omega, HY2.out, hq⟩
              case measure => simp [intOf]; omega
            · have hwho := who_is HINV.out hlt ha0
              have HY2 := Lib.hid (show y + 1 = many st (t + 1) by rw [many_succ, if_neg (by omega), ← HY.out])
              generalize st t = E at ha0 ha1 hwho ⊢
              have h5 := H.out.on ((Below.refl _ _).alloc (Nat.le_refl _) (.cells #[.int .i64 E.a, .int .i64 E.s, .int .i64 E.k] 30))
              have HLV := Lib.hid (Live_m HG.out h5 E.a)
              rw [show liveAt st n G.N E.a = (t : Int) by unfold liveAt; rw [if_pos ⟨ha0, ha1⟩, hwho], show liveV (t : Int) = .tuple #[.int .i64 (t : Int), .bool true] by unfold liveV; rw [if_neg (by omega)]; simp] at HLV
              replace H := Lib.hid h5
              clear h5
              unfold entV
              go_wp2_with fail
              refine HLV.out.mono ?_
              rintro e5 w5 ⟨rfl, hw⟩; subst w5
              obtain ⟨f0, f1, f2⟩ := cells3 (heap_alloc_new w4 (.cells #[.int .i64 E.a, .int .i64 E.s, .int .i64 E.k] 30))
              obtain ⟨k0, k1, k2, k3, k4⟩ := HGE.out _ H.out.below
              have hl0 := HG.out.l0
              have hl1 := HG.out.l1
              have HBIT := Lib.hid (bit_of HG.out ha0 ha1 (show who st n E.a ≠ -1 by omega))
              have HLN := Lib.hid (fun w => Line_of HG.out w)
              have hsz := size_L HG.out
              have HLEN : Hid (∀ line, (bitsAt st n G line).length ≤ 1000) := Lib.hid (fun line => by
                unfold bitsAt
                split
                · rw [bm_len]; omega
                · simp)
              obtain ⟨Q, hQ⟩ : ∃ Q, Q = E.a / G.L := ⟨_, rfl⟩
              obtain ⟨M, hM⟩ : ∃ M, M = E.a % G.L := ⟨_, rfl⟩
              have hQ0 : 0 ≤ Q := by rw [hQ]; exact Int.ediv_nonneg ha0 (by omega)
              have hQ1 : Q ≤ E.a := by rw [hQ]; exact Int.ediv_le_self _ ha0
              have hwq : IntKind.i64.wrap (E.a.tdiv G.L) = Q := by rw [hQ, Int.tdiv_eq_ediv_of_nonneg ha0]; exact kwrap_is (by omega) (by omega)
              have hwm : E.a.tmod G.L = M := by rw [hM, Int.tmod_eq_emod_of_nonneg ha0]
              rw [← hQ, ← hM] at HBIT
              have hlne : ¬ G.L = 0 := by omega
              clear hQ hM hQ0 hQ1 hsz hl0 hl1 hwho
              have HBT := Lib.hid (fun w (h : Mine G n a gd st [] w) => Bits_m HG.out h Q)
              have hxl := HLEN.out Q
              generalize bitsAt st n G Q = xs at HBIT HBT hxl
              have HM := Lib.hid (H.out.on (Below.refl _ _).drew)
              go_wp2_with fail
              go_region_held3 (fun w' => w'.cell? ⟨w4.heap.size, 0, none⟩ = some (.int .i64 E.a) ∧ w'.cell? ⟨w.heap.size, 0, none⟩ = some (.int .i64 G.c) ∧ w'.cell? ⟨w.heap.size, 1, none⟩ = some (.int .i64 G.l) ∧ w'.cell? ⟨w.heap.size, 2, none⟩ = some (.int .i64 G.k) ∧ w'.cell? ⟨w.heap.size, 3, none⟩ = some (.int .i64 G.p) ∧ w'.cell? ⟨w.heap.size, 4, none⟩ = some (.int .i64 G.s))
                (first | exact ⟨f0, k0, k1, k2, k3, k4⟩ | exact cell_geo_keep (by assumption) hb)
                (first
                  | (go_at_call 23; refine (HLN.out _).mono ?_; rintro e6 w6 ⟨rfl, hb⟩; replace HM := Lib.hid (HM.out.on hb); (try replace hr := bytes_keep hr (hb.mono hsz)))
                  | (go_at_call 14; refine (HBT.out _ HM.out).mono ?_; rintro e6 w6 ⟨v, rfl, ho, hb⟩; replace HM := Lib.hid (HM.out.on hb); obtain ⟨B1, c1, hv, hr⟩ := ho.reads; subst hv; have hsz := Nat.le_refl w6.heap.size)
                  | (go_at_call 22; refine (get_true HBIT.out B1 _ c1 _ _ hxl hr).mono ?_; rintro e6 w6 ⟨rfl, hb⟩; replace HM := Lib.hid (HM.out.on hb)))
              rename_i hHeld
              clear hHeld f0 f1 f2 k0 k1 k2 k3 k4 hr hb hsz hwq hwm
              go_wp2
              go_roundw
              case rel => exact ⟨t + 1, y + 1, by go_num, by go_num, by omega, HY2.out, HM.out⟩
              case measure => simp [intOf]; omega
          · obtain rfl : t = n := by omega
            have hg := HGE.out _ H.out.below
            have hk0 : 1 ≤ G.k := HG.out.may.2.2.2.2.1
            have hk1 : G.k ≤ 64 := HG.out.may.2.2.2.2.2.1
            obtain ⟨K, hK⟩ : ∃ K : Nat, G.k = K := ⟨G.k.toNat, by omega⟩
            have HK := Lib.hid hK
            have hKb : K ≤ 64 := by omega
            clear hk0 hk1 hK hg
            go_wp2
            go_loopw [17, 18, 19] (fun z i _ wq => ∃ (t' y' : Nat), i = .int .i64 (t' : Int) ∧ z = .int .i64 (y' : Int) ∧ t' ≤ K ∧ y' = valid st t 0 (t' * G.L.toNat) ∧ Mine G t a gd st [] wq) (fun _ i _ _ => K - (intOf i).toNat)
            case atStart => exact ⟨0, 0, rfl, rfl, by omega, by rw [Nat.zero_mul]; rfl, H.out⟩
            case round =>
              obtain ⟨t', y', rfl, rfl, ht', hy', h⟩ := hrel
              replace H := Lib.hid h
              have HY' := Lib.hid hy'
              clear h hy'
              obtain ⟨k0, k1, k2, k3, k4⟩ := HGE.out _ H.out.below
              by_cases hlt' : t' < K
              · have hlt2' : (t' : Int) < G.k := by rw [HK.out]; omega
                have HBT := Lib.hid (Bits_m HG.out H.out t')
                have HVA := Lib.hid (fun w (h : Mine G t a gd st [] w) => Valid_m HG.out h t')
                have HLN := Lib.hid (fun w => Line_of HG.out w)
                obtain ⟨hri, hle, hon⟩ := right_of HG.out (st := st) (n := t) (line := t') (by omega) hlt2'
                have hadd := valid_line HG.out st t hlt2'
                have hyb := valid_le st t 0 (t' * G.L.toNat)
                have hyb2 := valid_le st t 0 ((t' + 1) * G.L.toNat)
                have hl1 := HG.out.l1
                have hll : (t' + 1) * G.L.toNat ≤ 64 * 1024 := Nat.mul_le_mul (by omega) (by omega)
                have hsz := size_L HG.out
                have hml : BitsPkg.Bits.size G.L ≤ 1000 := by omega
                rw [← HY'.out] at hadd hyb
                generalize validAt st t G t' = V at HVA hon hadd
                generalize bitsAt st t G t' = xs at HBT hri hle hon
                generalize BitsPkg.Bits.size G.L = mm at hle hon hml
                have hV : y' + V ≤ 65536 := by omega
                have hV2 : V ≤ 65536 := by omega
                have hV3 : y' ≤ 65536 := by omega
                have HRI := Lib.hid hri
                have HON := Lib.hid hon
                have HADD := Lib.hid hadd
                have HLE := Lib.hid hle
                clear hri hon hadd hyb hyb2 hl1 hll hsz hle
                go_wp2_with fail
                refine HBT.out.mono ?_
                rintro e5 w5 ⟨v, rfl, ho, hb⟩
                replace H := Lib.hid (H.out.on hb)
                obtain ⟨k0, k1, k2, k3, k4⟩ := HGE.out _ H.out.below
                obtain ⟨B1, c1, hv, hr⟩ := ho.reads
                rw [HLE.out] at hv hr
                subst hv
                have HR := Lib.hid hr
                clear ho hb hr HBT
                go_wp2_with fail
                refine (HLN.out _).mono ?_
                rintro e6 w6 ⟨rfl, hb⟩
                replace H := Lib.hid (H.out.on hb)
                replace HR := Lib.hid (And.intro (bytes_keep HR.out hb) hb.size)
                clear hb k0 k1 k2 k3 k4
                go_wp2_with fail
                refine (right_true HRI.out B1 mm c1 _ _ hml HR.out.1 HR.out.2).mono ?_
                rintro e7 w7 ⟨rfl, hb⟩
                replace H := Lib.hid (H.out.on hb)
                replace HR := Lib.hid (And.intro (bytes_keep HR.out.1 (hb.mono HR.out.2)) (Nat.le_trans HR.out.2 hb.size))
                clear hb
                go_wp2_with fail
                refine (count_of B1 mm c1 _ _ hml HR.out.1 HR.out.2 HON.out).mono ?_
                rintro e8 w8 ⟨rfl, hb⟩
                replace H := Lib.hid (H.out.on hb)
                clear hb HR
                go_wp2_with fail
                refine (HVA.out _ H.out).mono ?_
                rintro e9 w9 ⟨rfl, hb⟩
                replace H := Lib.hid (H.out.on hb)
                clear hb
                go_wp2_with fail
                refine (HVA.out _ H.out).mono ?_
                rintro e10 w10 ⟨rfl, hb⟩
                replace H := Lib.hid (H.out.on hb)
                clear hb
                go_wp2
                go_roundw
                case rel => exact ⟨t' + 1, y' + V, by go_num, by go_num, by omega, HADD.out.symm, H.out⟩
                case measure => simp [intOf]; omega
              · have hlt2' : ¬ (t' : Int) < G.k := by rw [HK.out]; omega
                obtain rfl : t' = K := by omega
                have hyy : y' = y := by
                  rw [HY'.out, HY.out, ← valid_all HG.out HINV.out, HK.out]
                  rfl
                subst hyy
                have HMY := Lib.hid (Many_m H.out)
                rw [← HY.out] at HMY
                go_wp2_with fail
                refine HMY.out.mono ?_
                rintro e5 w5 ⟨rfl, hb⟩
                go_wp2
                go_ret
                exact ⟨rfl, HBW.out _ (below_then H.out.below hb)⟩

theorem own : ownKnob Try.prog.godebug = none := by kernel_rfl
theorem laid : laidOutB Try.prog = true := by kernel_rfl

set_option maxRecDepth 100000 in
theorem lifted (os : Os) (started : os.Started) (H : Type) (enc : TypeId × Value → H) :
    ReturnsInHanded {} Try.checked os 5 .any (Rows.l2pCountsSpec.pre6 enc Try.prog Try.f5 Rows.l2pCountsRow.domain false) (Rows.l2pCountsSpec.post enc Try.prog Try.f5 false true false false) := by
  refine returnsInHanded_of_change (C := Try.checked) own started (by kernel_rfl) Try.func5
    (ChangeSpec.witness6 (enc := enc) (C := Try.checked) false ⟨#[], #[.agg #[.int .i64 0, .int .i64 0, .int .i64 0, .int .i64 0, .int .i64 0], .int .i64 0, .slice none 0 0], []⟩ 8 (by kernel_rfl) (by kernel_rfl) (by kernel_rfl) (by kernel_rfl)) ?_
  intro W base args ds gs before hval0 hW _ _
  have hval : ∀ (j : Nat) t v, Try.f5.params[j]? = some t → args[j]? = some v → Value.okWide Try.prog W .any base t v := hval0
  have hW' := hW
  obtain ⟨p, q, hA0, hV, rfl, hfz, hnd⟩ := hW
  have hA : DataW.TrodAll enc Try.prog W 0 (fun _ => true) true Try.f5.params.toList args.toList ds p := hA0
  rw [Try.params5] at hA hval
  obtain ⟨v0, v1, v2, d0, d1, d2, p0, p1, p2, rfl, rfl, rfl, h0, h1, h2⟩ := trodAll_three hA
  obtain ⟨c0, l0, k0, q0, s0, rfl⟩ := open_geo Try.underlying23 rfl (by kernel_rfl) (by kernel_rfl) (hval 0 23 v0 rfl rfl) h0
  obtain ⟨a1, rfl, rfl, rfl, wf1⟩ := open_int Try.underlying3 (hval 1 3 v1 rfl rfl) h1
  have hb1 : -9223372036854775808 ≤ a1 ∧ a1 ≤ 9223372036854775807 := by simpa [Lit.wf, IntKind.min, IntKind.max, IntKind.signed, IntKind.bits] using wf1
  obtain ⟨A2, n2, c2, rfl, hnc2, hcm2, hr2⟩ := L2pOps.open_ops (hval 2 38 v2 rfl rfl) h2
  refine (walk c0 l0 k0 q0 s0 a1 A2 n2 c2 W hb1.1 hb1.2 hnc2 hcm2 hr2).mono fun e W' ⟨he, hb⟩ => ?_
  subst he
  exact ⟨_, rfl, Law.post laid (by kernel_rfl) (by kernel_rfl) Try.underlying4 rfl hW' rfl hb⟩

theorem proved : Rows.L2pCountsSaid :=
  OpenClaim.holds_of_wide 5 Try.f5 rfl rfl rfl rfl rfl rfl rfl ⟨rfl, rfl, rfl, rfl, rfl⟩ rfl rfl rfl rfl rfl (by kernel_rfl) Try.func5 (by kernel_rfl)
    (of_decide_eq_true (by kernel_rfl)) (by unfold Func.isWrapper; first | (rw [if_pos (by decide +kernel)]; kernel_rfl) | (rw [if_neg (by decide +kernel)]; exact ⟨rfl, rfl⟩))
    (fun os started H enc _ => lifted os started H enc)

end Go.Proofs.Ytpheblblkkclbaa.l2pCounts
