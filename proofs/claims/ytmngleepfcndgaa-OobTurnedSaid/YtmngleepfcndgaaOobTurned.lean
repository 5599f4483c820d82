/-
  OobTurned: for all metadata, every slice of bytes and every two ints the law answers true. No condition.
-/
import Derived.Test.YtmngleepfcndgaaOobKit2
import Derived.Test.YtmngleepfcndgaaArrays
import Derived.Test.YtmngleepfcndgaaHeld
import Derived.Deep.DeepCutAuto
namespace Go.Proofs.Ytmngleepfcndgaa.oobTurned
open Go.ChangeShapes Go.WideShapes Go.ChangeAt Go.RowKit Go.Proofs.Ytmngleepfcndgaa.OobPkg
set_option maxRecDepth 4000

theorem bytes_front {w : World} {B : Nat} {A : Option Addr} {n : Nat} {xs : List UInt8} (h : Bytes w B A n xs) {m : Nat} (hm : m ≤ n) : Bytes w B A m (xs.take m) := by
  have hl := h.1
  refine ⟨by simp; omega, fun i hi => ?_⟩
  simp at hi
  obtain ⟨b, off, e, hb, hc⟩ := h.2 i (by omega)
  exact ⟨b, off, e, hb, by simpa using hc⟩

theorem bytes_back {w : World} {B b off n : Nat} {xs : List UInt8} (h : Bytes w B (some ⟨b, off, none⟩) n xs) (m : Nat) : Bytes w B (some ⟨b, off + m, none⟩) (n - m) (xs.drop m) := by
  have hl := h.1
  refine ⟨by simp; omega, fun i hi => ?_⟩
  simp at hi
  obtain ⟨b2, off2, e, hb, hc⟩ := h.2 (m + i) (by omega)
  injection e with e
  injection e with e1 e2
  subst e1 e2
  refine ⟨b, off + m, rfl, hb, ?_⟩
  rw [Nat.add_assoc, hc]
  simp

/-- A byte turned. -/
def turn (x : UInt8) (t : Int) : UInt8 := x ^^^ UInt8.ofNat t.toNat

theorem turn_is (x : UInt8) (t : Int) (h0 : 0 ≤ t) (h1 : t < 256) : bits .xor .u8 (x.toNat : Int) t = ((turn x t).toNat : Int) := by
  obtain ⟨n, rfl⟩ := Int.eq_ofNat_of_zero_le h0
  have h := u8_xor_nat x.toNat n x.toNat_lt (by omega)
  rw [h]
  unfold turn
  rw [UInt8.toNat_xor, UInt8.toNat_ofNat']
  simp
  rw [Nat.mod_eq_of_lt (by omega)]

theorem turn_ne (x : UInt8) (t : Int) (h0 : 0 < t) (h1 : t < 256) : turn x t ≠ x := by
  intro e
  unfold turn at e
  have h2 : x ^^^ (x ^^^ UInt8.ofNat t.toNat) = x ^^^ x := by rw [e]
  rw [← UInt8.xor_assoc] at h2
  simp at h2
  have h3 := congrArg UInt8.toNat h2
  rw [UInt8.toNat_ofNat'] at h3
  simp at h3
  omega

theorem tri_zero {w : World} {g : Nat} (h : Tri w g 0 0 0) : Tri (((w.setCell ⟨g, 0, none⟩ (.int .i64 0)).setCell ⟨g, 1, none⟩ (.int .i64 0)).setCell ⟨g, 2, none⟩ (.int .i64 0)) g 0 0 0 := by
  unfold Tri
  simp [World.setCell, Array.getElem?_modify, show w.heap[g]? = _ from h]

theorem tri_free {w : World} {g : Nat} {k l s : Int} (h : Tri w g k l s) (i : Nat) : w.frozen? ⟨g, i, none⟩ = false := by
  simp [World.frozen?, show w.heap[g]? = _ from h]

set_option maxHeartbeats 2000000 in
theorem walk (k l s : Int) (A : Option Addr) (n c : Nat) (d : List UInt8) (x0 x1 : Int) (w : World) (_hnc : n ≤ c) (_hcm : c ≤ maxLen) (hr : Bytes w w.heap.size A n d) (hx0 : -9223372036854775808 ≤ x0) (hx1 : x0 ≤ 9223372036854775807) (_hy0 : -9223372036854775808 ≤ x1) (_hy1 : x1 ≤ 9223372036854775807) :
    Calls Try.prog 6 #[oob k l s, .slice A n c, .agg #[.int .i64 x0, .int .i64 x1]] w fun e w' => e = .returned (.bool true) ∧ Below w.heap.size w w' := by
  have HB := Lib.hid (((Below.refl w.heap.size w).alloc (Nat.le_refl _) (.cells #[.int .i64 k, .int .i64 l, .int .i64 s] 23)).alloc (by simp) (.cells #[.int .i64 x0, .int .i64 x1] 35))
  have H1 := Lib.hid ((Tri.new w k l s).old (.cells #[.int .i64 x0, .int .i64 x1] 35))
  have hxa : ((w.alloc (.cells #[.int .i64 k, .int .i64 l, .int .i64 s] 23)).alloc (.cells #[.int .i64 x0, .int .i64 x1] 35)).cell? ⟨w.heap.size + 1, 0, none⟩ = some (.int .i64 x0) := by
    rw [World.cell?_alloc_at _ _ _ _ (by simp)]
    rfl
  have hxb : ((w.alloc (.cells #[.int .i64 k, .int .i64 l, .int .i64 s] 23)).alloc (.cells #[.int .i64 x0, .int .i64 x1] 35)).cell? ⟨w.heap.size + 1, 1, none⟩ = some (.int .i64 x1) := by
    rw [World.cell?_alloc_at _ _ _ _ (by simp)]
    rfl
  have HXA := Lib.hid hxa
  have HXB := Lib.hid hxb
  have HR := Lib.hid hr
  clear hr hxa hxb
  go_enter Try.func6, Try.ntmps6
  go_wp2_with fail
  refine (awake_any _).mono ?_
  rintro e w1 ⟨rfl, hb⟩
  replace HB := Lib.hid (below_on HB.out hb)
  replace H1 := Lib.hid (H1.out.keep hb)
  replace HXA := Lib.hid (cell_stays hb HXA.out)
  replace HXB := Lib.hid (cell_stays hb HXB.out)
  clear hb
  generalize w.heap.size + 1 = g2 at HXA HXB ⊢
  have c10 := H1.out.c0
  have c11 := H1.out.c1
  have c12 := H1.out.c2
  obtain ⟨t, ht⟩ : ∃ t, t = IntKind.u8.wrap x1 := ⟨_, rfl⟩
  have ht01 : 0 ≤ t ∧ t < 256 := by rw [ht, IntKind.wrap_u8]; omega
  have hwt : IntKind.u8.wrap x1 = t := ht.symm
  clear ht
  by_cases ho1 : Oob.Ok k l s ∧ n = 16
  · obtain ⟨ok1, rfl⟩ := ho1
    have OK1 := Lib.hid ok1
    clear ok1
    go_wp2_with fail
    refine (Pack_ok k l s A c d w1 OK1.out (bytes_more (bytes_keep HR.out HB.out) HB.out.size)).mono ?_
    rintro e w2 ⟨A3, rfl, hr3, hb⟩
    replace HB := Lib.hid (below_on HB.out hb)
    replace HXA := Lib.hid (cell_stays hb HXA.out)
    replace HXB := Lib.hid (cell_stays hb HXB.out)
    obtain ⟨u, hu⟩ : ∃ u, u = Oob.full k l s d := ⟨_, rfl⟩
    rw [← hu] at hr3
    have HR3 := Lib.hid hr3
    have Hu := Lib.hid hu
    clear hb hr3 hu c10 c11 c12 H1
    have cxa := HXA.out
    have cxb := HXB.out
    by_cases hneg : x0 < 0
    · go_wp2
      go_ret
      exact ⟨rfl, HB.out⟩
    by_cases htz : t = 0
    · have htz2 : (t == 0) = true := by simp [htz]
      clear htz
      go_wp2
      go_ret
      exact ⟨rfl, HB.out⟩
    have htz2 : (t == 0) = false := by simp [htz]
    obtain ⟨x0, rfl⟩ := Int.eq_ofNat_of_zero_le (show 0 ≤ x0 by omega)
    have HTP := Lib.hid (show 0 < t by omega)
    clear htz hneg
    have HL1 := Lib.hid (show ([] : List UInt8).length + 17 ≤ 140737488355328 by show 0 + _ ≤ _; omega)
    have HBa := Lib.hid ((Below.refl w2.heap.size w2).alloc (Nat.le_refl _) (.cells #[] 5))
    go_wp2_with (at_builtin; refine wpList_append_bytes _ rfl _ _ _ rfl w2.heap.size 5 Try.underlying24 info8 _ [] rfl (own_new w2 5 [] _ rfl (Nat.zero_le _)) w2.heap.size A3 17 17 u rfl (bytes_keep HR3.out HBa.out) HL1.out HBa.out.size ?_)
    intro va wa hoa hga _
    have HBb := Lib.hid (HBa.out.grown hga HBa.out.size (fun k hk => by simp [Value.ownBlock] at hk; omega))
    have HOa := Lib.hid hoa
    have HL2 := Lib.hid (show (([] : List UInt8) ++ u).length + 16 ≤ 140737488355328 by have := (HR3.out).1; simp; omega)
    clear hoa hga HBa HL1
    go_wp2_with (at_builtin; refine wpList_append_bytes _ rfl _ _ _ rfl w2.heap.size 5 Try.underlying24 info8 va (([] : List UInt8) ++ u) rfl HOa.out w2.heap.size A 16 c d rfl (bytes_keep (bytes_more (bytes_keep HR.out HB.out) HB.out.size) HBb.out) HL2.out HBb.out.size ?_)
    intro vb wb hob hgb _
    have HBd := Lib.hid (HBb.out.grown hgb HBb.out.size HOa.out.block)
    obtain ⟨y1, hy1⟩ : ∃ y, y = u ++ d := ⟨_, rfl⟩
    replace hob : Own wb w2.heap.size 5 vb y1 := by rw [hy1]; exact hob
    have hyl : y1.length = 33 := by
      have h1 := HR3.out.1
      have h2 := HR.out.1
      rw [hy1, List.length_append]
      omega
    obtain ⟨g, cap, rfl, hgw, hcap, hcm⟩ := hob.form (by omega)
    rw [hyl] at hcap hob ⊢
    have Hy1 := Lib.hid hy1
    have HYL := Lib.hid hyl
    have HOB := Lib.hid hob
    have HG := Lib.hid hgw
    have hcap17 : ¬ cap = 17 := by omega
    have hcap17i : (17 : Int) ≤ (cap : Int) := by omega
    replace HXA := Lib.hid (cell_stays HBd.out HXA.out)
    have HBw := Lib.hid (HB.out.trans (HBd.out.mono HB.out.size))
    unfold maxLen at hcm
    clear hob hgb HBb HOa HL2 hy1 hyl cxa cxb
    have cxa := HXA.out
    go_upto_region 10 with fail
    obtain ⟨q, hq⟩ : ∃ q : Nat, (x0 : Int) % 33 = (q : Int) := ⟨x0 % 33, by omega⟩
    have hq33 : q < 33 := by omega
    rw [hq]
    have hqi : (q : Int) < 33 := by omega
    obtain ⟨hc, hfz⟩ := HOB.out.cell (i := q) (by rw [HYL.out]; exact hq33)
    obtain ⟨x, hx⟩ : ∃ x, x = y1[q]'(by rw [HYL.out]; exact hq33) := ⟨_, rfl⟩
    rw [← hx] at hc
    replace hc : wb.cell? ⟨g, q, none⟩ = some (.int .u8 (x.toNat : Int)) := hc
    have HX := Lib.hid hx
    clear hq hx cxa
    go_upto_region 11 with fail
    refine at_world ?_
    intro X hX
    obtain ⟨z, hz⟩ : ∃ z, z = turn x t := ⟨_, rfl⟩
    have hzn : z ≠ x := by rw [hz]; exact turn_ne x t HTP.out ht01.2
    have HOX : Own X w2.heap.size 5 (.slice (some ⟨g, 0, none⟩) 33 cap) (y1.set q z) := by
      rw [hX, turn_is x t ht01.1 ht01.2, ← hz]
      exact HOB.out.set q z
    have HBX := Lib.hid (show Below w.heap.size w X by rw [hX]; exact HBw.out.setCell (Nat.le_trans HB.out.size HG.out) _)
    have hun := Oob.turned (k := k) (l := l) (s := s) (d := d) (i := q) (y := z) HR.out.1 (by rw [← Hu.out, ← Hy1.out, HYL.out]; exact hq33) (by
      have e := HX.out
      intro e2
      apply hzn
      rw [e2, e]
      simp only [Hy1.out, Hu.out])
    rw [← Hu.out, ← Hy1.out] at hun
    obtain ⟨A7, c7, hv7, hr7⟩ := HOX.reads
    injection hv7 with hv71 hv72 hv73
    subst hv71
    rw [← hv72] at hr7
    have HRF := Lib.hid (show Bytes X X.heap.size (some ⟨g, 0, none⟩) 17 ((y1.set q z).take 17) from bytes_front hr7 (by omega))
    have HRB := Lib.hid (show Bytes X X.heap.size (some ⟨g, 17, none⟩) 16 ((y1.set q z).drop 17) by
      have h := bytes_back hr7 17
      rw [Nat.zero_add] at h
      exact h)
    generalize (y1.set q z).take 17 = bf at HRF hun
    generalize (y1.set q z).drop 17 = bd at HRB hun
    clear hX hc hfz hz hzn HOX hr7 hv72 hv73
    rcases hun with hun | hun
    · have HUN := Lib.hid hun
      clear hun
      refine wp_region_held_drew (S := (fun _ => True)) (by kernel_rfl) ?_ (fun hHeld => ?_)
      · trivial
      refine Hand.held_take (i := 0) (d := 63) (v := ?_) rfl rfl (by kernel_rfl) (by kernel_rfl) (by kernel_rfl) (by rfl) ?_ (by assumption) (fun _ _ _ h => h) ?_
      rotate_left
      · intro w hSw
        go_simp
        with_reducible rfl
      try simp only [Act.put, List.setIfInBounds_toArray, List.set_cons_zero, List.set_cons_succ]
      refine Hand.held_take (i := 1) (d := 64) (v := ?_) rfl rfl (by kernel_rfl) (by kernel_rfl) (by kernel_rfl) (by rfl) ?_ (by assumption) (fun _ _ _ h => h) ?_
      rotate_left
      · intro w hSw
        go_simp
        with_reducible rfl
      try simp only [Act.put, List.setIfInBounds_toArray, List.set_cons_zero, List.set_cons_succ]
      refine Hand.held_take (i := 2) (d := 65) (v := ?_) rfl rfl (by kernel_rfl) (by kernel_rfl) (by kernel_rfl) (by rfl) ?_ (by assumption) (fun _ _ _ h => h) ?_
      rotate_left
      · intro w hSw
        go_simp
        with_reducible rfl
      try simp only [Act.put, List.setIfInBounds_toArray, List.set_cons_zero, List.set_cons_succ]
      refine Hand.held_take (i := 3) (d := 66) (v := ?_) rfl rfl (by kernel_rfl) (by kernel_rfl) (by kernel_rfl) (by rfl) ?_ (by assumption) (fun _ _ _ h => h) ?_
      rotate_left
      · intro w hSw
        go_simp
        with_reducible rfl
      try simp only [Act.put, List.setIfInBounds_toArray, List.set_cons_zero, List.set_cons_succ]
      refine wpAnyH_ready (rs := [4, 8]) (by kernel_rfl) (by simp) ?_
      refine AllReadyH.cons rfl (fun K hK => ?_) (AllReadyH.cons rfl (fun K hK => ?_) AllReadyH.nil)
      · go_simp
        go_wp2_with (go_at_call 15; refine (Unpack_err (w := X.drew) HRF.out HRB.out HUN.out).mono ?_; rintro e w9 ⟨rfl, hb⟩; have HB9 := Lib.hid (below_on HBX.out.drew hb))
        refine hK.out _ _ ?_ (fun hHeld => ?_)
        · trivial
        clear hK K hb
        refine Hand.held_take (i := 5) (d := 62) (v := ?_) rfl rfl (by kernel_rfl) (by kernel_rfl) (by kernel_rfl) (by rfl) ?_ (by assumption) (fun _ _ _ h => h) ?_
        rotate_left
        · intro w hSw
          go_simp
          with_reducible rfl
        try simp only [Act.put, List.setIfInBounds_toArray, List.set_cons_zero, List.set_cons_succ]
        refine Hand.held_take (i := 6) (d := 68) (v := ?_) rfl rfl (by kernel_rfl) (by kernel_rfl) (by kernel_rfl) (by rfl) ?_ (by assumption) (fun _ _ _ h => h) ?_
        rotate_left
        · intro w hSw
          go_simp
          with_reducible rfl
        try simp only [Act.put, List.setIfInBounds_toArray, List.set_cons_zero, List.set_cons_succ]
        refine Hand.held_take (i := 7) (d := 69) (v := ?_) rfl rfl (by kernel_rfl) (by kernel_rfl) (by kernel_rfl) (by rfl) ?_ (by assumption) (fun _ _ _ h => h) ?_
        rotate_left
        · intro w hSw
          go_simp
          with_reducible rfl
        try simp only [Act.put, List.setIfInBounds_toArray, List.set_cons_zero, List.set_cons_succ]
        refine wpAnyH_ready (rs := [8]) (by kernel_rfl) (by simp) ?_
        refine AllReadyH.cons rfl (fun K hK => ?_) AllReadyH.nil
        go_simp
        refine hK.out _ _ ?_ (fun hHeld => ?_)
        · trivial
        clear hK K
        refine wpAnyH_ready (rs := [9]) (by kernel_rfl) (by simp) ?_
        refine AllReadyH.cons rfl (fun K hK => ?_) AllReadyH.nil
        go_simp
        refine hK.out _ _ ?_ (fun hHeld => ?_)
        · trivial
        clear hK K
        refine Hand.held_take (i := 10) (d := 14) (v := ?_) rfl rfl (by kernel_rfl) (by kernel_rfl) (by kernel_rfl) (by rfl) ?_ (by assumption) (fun _ _ _ h => h) ?_
        rotate_left
        · intro w hSw
          go_simp
          with_reducible rfl
        try simp only [Act.put, List.setIfInBounds_toArray, List.set_cons_zero, List.set_cons_succ]
        refine wpAnyH_done (by kernel_rfl) ?_ _
        clear hHeld
        go_wp2
        go_ret
        exact ⟨by simp, HB9.out.alloc HB9.out.size _⟩
      · go_simp
        refine hK.out _ _ ?_ (fun hHeld => ?_)
        · trivial
        clear hK K
        have hba := (Below.refl X.heap.size X).alloc (Nat.le_refl _) (.cells #[.int .i64 0, .int .i64 0, .int .i64 0] 23)
        have HRF2 := Lib.hid (bytes_more (bytes_keep HRF.out hba) hba.size)
        have HRB2 := Lib.hid (bytes_more (bytes_keep HRB.out hba) hba.size)
        have HTX := Lib.hid (Tri.new X 0 0 0)
        have HBX2 := Lib.hid ((HBX.out.alloc HBX.out.size (.cells #[.int .i64 0, .int .i64 0, .int .i64 0] 23)).drew)
        clear hba
        refine wpAnyH_ready (rs := [4]) (by kernel_rfl) (by simp) ?_
        refine AllReadyH.cons rfl (fun K hK => ?_) AllReadyH.nil
        go_simp
        go_wp2_with (go_at_call 15; refine (Unpack_err (w := (X.alloc (.cells #[.int .i64 0, .int .i64 0, .int .i64 0] 23)).drew) HRF2.out HRB2.out HUN.out).mono ?_; rintro e w9 ⟨rfl, hb⟩; have HB9 := Lib.hid (below_on HBX2.out hb); have HT9 := Lib.hid (Tri.keep (w := (X.alloc (.cells #[.int .i64 0, .int .i64 0, .int .i64 0] 23)).drew) HTX.out hb))
        refine hK.out _ _ ?_ (fun hHeld => ?_)
        · trivial
        clear hK K
        clear hb
        have c0 := HT9.out.c0
        have c1 := HT9.out.c1
        have c2 := HT9.out.c2
        have f0 := tri_free HT9.out 0
        have f1 := tri_free HT9.out 1
        have f2 := tri_free HT9.out 2
        refine Hand.held_take (i := 5) (d := 62) (v := ?_) rfl rfl (by kernel_rfl) (by kernel_rfl) (by kernel_rfl) (by rfl) ?_ (by assumption) (fun _ _ _ h => h) ?_
        rotate_left
        · intro w hSw
          go_simp
          with_reducible rfl
        try simp only [Act.put, List.setIfInBounds_toArray, List.set_cons_zero, List.set_cons_succ]
        refine Hand.held_take (i := 6) (d := 68) (v := ?_) rfl rfl (by kernel_rfl) (by kernel_rfl) (by kernel_rfl) (by rfl) ?_ (by assumption) (fun _ _ _ h => h) ?_
        rotate_left
        · intro w hSw
          go_simp
          with_reducible rfl
        try simp only [Act.put, List.setIfInBounds_toArray, List.set_cons_zero, List.set_cons_succ]
        refine Hand.held_take (i := 7) (d := 69) (v := ?_) rfl rfl (by kernel_rfl) (by kernel_rfl) (by kernel_rfl) (by rfl) ?_ (by assumption) (fun _ _ _ h => h) ?_
        rotate_left
        · intro w hSw
          go_simp
          with_reducible rfl
        try simp only [Act.put, List.setIfInBounds_toArray, List.set_cons_zero, List.set_cons_succ]
        refine wpAnyH_ready (rs := [9]) (by kernel_rfl) (by simp) ?_
        refine AllReadyH.cons rfl (fun K hK => ?_) AllReadyH.nil
        go_simp
        refine hK.out _ _ ?_ (fun hHeld => ?_)
        · trivial
        clear hK K
        refine Hand.held_take (i := 10) (d := 14) (v := ?_) rfl rfl (by kernel_rfl) (by kernel_rfl) (by kernel_rfl) (by rfl) ?_ (by assumption) (fun _ _ _ h => h) ?_
        rotate_left
        · intro w hSw
          go_simp
          with_reducible rfl
        try simp only [Act.put, List.setIfInBounds_toArray, List.set_cons_zero, List.set_cons_succ]
        refine wpAnyH_done (by kernel_rfl) ?_ _
        clear hHeld
        go_upto_region 12 with fail
        refine at_world ?_
        intro Y hY
        have HTY := Lib.hid (show Tri Y X.heap.size 0 0 0 by rw [hY]; exact tri_zero HT9.out)
        have HBY := Lib.hid (show Below w.heap.size w Y by rw [hY]; exact ((HB9.out.setCell (p := ⟨X.heap.size, 0, none⟩) HBX.out.size _).setCell (p := ⟨X.heap.size, 1, none⟩) HBX.out.size _).setCell (p := ⟨X.heap.size, 2, none⟩) HBX.out.size _)
        clear hY c0 c1 c2 f0 f1 f2
        have c0 := HTY.out.c0
        have c1 := HTY.out.c1
        have c2 := HTY.out.c2
        go_wp2
        go_ret
        exact ⟨by simp, HBY.out⟩
    · have HUN := Lib.hid hun
      clear hun
      refine wp_region_held_drew (S := (fun _ => True)) (by kernel_rfl) ?_ (fun hHeld => ?_)
      · trivial
      refine Hand.held_take (i := 0) (d := 63) (v := ?_) rfl rfl (by kernel_rfl) (by kernel_rfl) (by kernel_rfl) (by rfl) ?_ (by assumption) (fun _ _ _ h => h) ?_
      rotate_left
      · intro w hSw
        go_simp
        with_reducible rfl
      try simp only [Act.put, List.setIfInBounds_toArray, List.set_cons_zero, List.set_cons_succ]
      refine Hand.held_take (i := 1) (d := 64) (v := ?_) rfl rfl (by kernel_rfl) (by kernel_rfl) (by kernel_rfl) (by rfl) ?_ (by assumption) (fun _ _ _ h => h) ?_
      rotate_left
      · intro w hSw
        go_simp
        with_reducible rfl
      try simp only [Act.put, List.setIfInBounds_toArray, List.set_cons_zero, List.set_cons_succ]
      refine Hand.held_take (i := 2) (d := 65) (v := ?_) rfl rfl (by kernel_rfl) (by kernel_rfl) (by kernel_rfl) (by rfl) ?_ (by assumption) (fun _ _ _ h => h) ?_
      rotate_left
      · intro w hSw
        go_simp
        with_reducible rfl
      try simp only [Act.put, List.setIfInBounds_toArray, List.set_cons_zero, List.set_cons_succ]
      refine Hand.held_take (i := 3) (d := 66) (v := ?_) rfl rfl (by kernel_rfl) (by kernel_rfl) (by kernel_rfl) (by rfl) ?_ (by assumption) (fun _ _ _ h => h) ?_
      rotate_left
      · intro w hSw
        go_simp
        with_reducible rfl
      try simp only [Act.put, List.setIfInBounds_toArray, List.set_cons_zero, List.set_cons_succ]
      refine wpAnyH_ready (rs := [4, 8]) (by kernel_rfl) (by simp) ?_
      refine AllReadyH.cons rfl (fun K hK => ?_) (AllReadyH.cons rfl (fun K hK => ?_) AllReadyH.nil)
      · go_simp
        go_wp2_with (go_at_call 15; refine (Unpack_err (w := X.drew) HRF.out HRB.out HUN.out).mono ?_; rintro e w9 ⟨rfl, hb⟩; have HB9 := Lib.hid (below_on HBX.out.drew hb))
        refine hK.out _ _ ?_ (fun hHeld => ?_)
        · trivial
        clear hK K hb
        refine Hand.held_take (i := 5) (d := 62) (v := ?_) rfl rfl (by kernel_rfl) (by kernel_rfl) (by kernel_rfl) (by rfl) ?_ (by assumption) (fun _ _ _ h => h) ?_
        rotate_left
        · intro w hSw
          go_simp
          with_reducible rfl
        try simp only [Act.put, List.setIfInBounds_toArray, List.set_cons_zero, List.set_cons_succ]
        refine Hand.held_take (i := 6) (d := 68) (v := ?_) rfl rfl (by kernel_rfl) (by kernel_rfl) (by kernel_rfl) (by rfl) ?_ (by assumption) (fun _ _ _ h => h) ?_
        rotate_left
        · intro w hSw
          go_simp
          with_reducible rfl
        try simp only [Act.put, List.setIfInBounds_toArray, List.set_cons_zero, List.set_cons_succ]
        refine Hand.held_take (i := 7) (d := 69) (v := ?_) rfl rfl (by kernel_rfl) (by kernel_rfl) (by kernel_rfl) (by rfl) ?_ (by assumption) (fun _ _ _ h => h) ?_
        rotate_left
        · intro w hSw
          go_simp
          with_reducible rfl
        try simp only [Act.put, List.setIfInBounds_toArray, List.set_cons_zero, List.set_cons_succ]
        refine wpAnyH_ready (rs := [8]) (by kernel_rfl) (by simp) ?_
        refine AllReadyH.cons rfl (fun K hK => ?_) AllReadyH.nil
        go_simp
        refine hK.out _ _ ?_ (fun hHeld => ?_)
        · trivial
        clear hK K
        refine wpAnyH_ready (rs := [9]) (by kernel_rfl) (by simp) ?_
        refine AllReadyH.cons rfl (fun K hK => ?_) AllReadyH.nil
        go_simp
        refine hK.out _ _ ?_ (fun hHeld => ?_)
        · trivial
        clear hK K
        refine Hand.held_take (i := 10) (d := 14) (v := ?_) rfl rfl (by kernel_rfl) (by kernel_rfl) (by kernel_rfl) (by rfl) ?_ (by assumption) (fun _ _ _ h => h) ?_
        rotate_left
        · intro w hSw
          go_simp
          with_reducible rfl
        try simp only [Act.put, List.setIfInBounds_toArray, List.set_cons_zero, List.set_cons_succ]
        refine wpAnyH_done (by kernel_rfl) ?_ _
        clear hHeld
        go_wp2
        go_ret
        exact ⟨by simp, HB9.out.alloc HB9.out.size _⟩
      · go_simp
        refine hK.out _ _ ?_ (fun hHeld => ?_)
        · trivial
        clear hK K
        have hba := (Below.refl X.heap.size X).alloc (Nat.le_refl _) (.cells #[.int .i64 0, .int .i64 0, .int .i64 0] 23)
        have HRF2 := Lib.hid (bytes_more (bytes_keep HRF.out hba) hba.size)
        have HRB2 := Lib.hid (bytes_more (bytes_keep HRB.out hba) hba.size)
        have HTX := Lib.hid (Tri.new X 0 0 0)
        have HBX2 := Lib.hid ((HBX.out.alloc HBX.out.size (.cells #[.int .i64 0, .int .i64 0, .int .i64 0] 23)).drew)
        clear hba
        refine wpAnyH_ready (rs := [4]) (by kernel_rfl) (by simp) ?_
        refine AllReadyH.cons rfl (fun K hK => ?_) AllReadyH.nil
        go_simp
        go_wp2_with (go_at_call 15; refine (Unpack_err (w := (X.alloc (.cells #[.int .i64 0, .int .i64 0, .int .i64 0] 23)).drew) HRF2.out HRB2.out HUN.out).mono ?_; rintro e w9 ⟨rfl, hb⟩; have HB9 := Lib.hid (below_on HBX2.out hb); have HT9 := Lib.hid (Tri.keep (w := (X.alloc (.cells #[.int .i64 0, .int .i64 0, .int .i64 0] 23)).drew) HTX.out hb))
        refine hK.out _ _ ?_ (fun hHeld => ?_)
        · trivial
        clear hK K
        clear hb
        have c0 := HT9.out.c0
        have c1 := HT9.out.c1
        have c2 := HT9.out.c2
        have f0 := tri_free HT9.out 0
        have f1 := tri_free HT9.out 1
        have f2 := tri_free HT9.out 2
        refine Hand.held_take (i := 5) (d := 62) (v := ?_) rfl rfl (by kernel_rfl) (by kernel_rfl) (by kernel_rfl) (by rfl) ?_ (by assumption) (fun _ _ _ h => h) ?_
        rotate_left
        · intro w hSw
          go_simp
          with_reducible rfl
        try simp only [Act.put, List.setIfInBounds_toArray, List.set_cons_zero, List.set_cons_succ]
        refine Hand.held_take (i := 6) (d := 68) (v := ?_) rfl rfl (by kernel_rfl) (by kernel_rfl) (by kernel_rfl) (by rfl) ?_ (by assumption) (fun _ _ _ h => h) ?_
        rotate_left
        · intro w hSw
          go_simp
          with_reducible rfl
        try simp only [Act.put, List.setIfInBounds_toArray, List.set_cons_zero, List.set_cons_succ]
        refine Hand.held_take (i := 7) (d := 69) (v := ?_) rfl rfl (by kernel_rfl) (by kernel_rfl) (by kernel_rfl) (by rfl) ?_ (by assumption) (fun _ _ _ h => h) ?_
        rotate_left
        · intro w hSw
          go_simp
          with_reducible rfl
        try simp only [Act.put, List.setIfInBounds_toArray, List.set_cons_zero, List.set_cons_succ]
        refine wpAnyH_ready (rs := [9]) (by kernel_rfl) (by simp) ?_
        refine AllReadyH.cons rfl (fun K hK => ?_) AllReadyH.nil
        go_simp
        refine hK.out _ _ ?_ (fun hHeld => ?_)
        · trivial
        clear hK K
        refine Hand.held_take (i := 10) (d := 14) (v := ?_) rfl rfl (by kernel_rfl) (by kernel_rfl) (by kernel_rfl) (by rfl) ?_ (by assumption) (fun _ _ _ h => h) ?_
        rotate_left
        · intro w hSw
          go_simp
          with_reducible rfl
        try simp only [Act.put, List.setIfInBounds_toArray, List.set_cons_zero, List.set_cons_succ]
        refine wpAnyH_done (by kernel_rfl) ?_ _
        clear hHeld
        go_upto_region 12 with fail
        refine at_world ?_
        intro Y hY
        have HTY := Lib.hid (show Tri Y X.heap.size 0 0 0 by rw [hY]; exact tri_zero HT9.out)
        have HBY := Lib.hid (show Below w.heap.size w Y by rw [hY]; exact ((HB9.out.setCell (p := ⟨X.heap.size, 0, none⟩) HBX.out.size _).setCell (p := ⟨X.heap.size, 1, none⟩) HBX.out.size _).setCell (p := ⟨X.heap.size, 2, none⟩) HBX.out.size _)
        clear hY c0 c1 c2 f0 f1 f2
        have c0 := HTY.out.c0
        have c1 := HTY.out.c1
        have c2 := HTY.out.c2
        go_wp2
        go_ret
        exact ⟨by simp, HBY.out⟩
  · go_wp2_with fail
    refine (Pack_bad k l s A n c w1 ho1).mono ?_
    rintro e w3 ⟨rfl, hb⟩
    replace HB := Lib.hid (below_on HB.out hb)
    have cxa := cell_stays hb HXA.out
    have cxb := cell_stays hb HXB.out
    clear hb c10 c11 c12 ho1
    go_wp2
    all_goals go_ret
    all_goals exact ⟨rfl, HB.out⟩

theorem own : ownKnob Try.prog.godebug = none := by kernel_rfl
theorem laid : laidOutB Try.prog = true := by kernel_rfl
theorem one8 : Try.prog.cellsOf 5 = 1 := by kernel_rfl
theorem one64 : Try.prog.cellsOf 3 = 1 := by kernel_rfl

set_option maxRecDepth 100000 in
theorem lifted (os : Os) (started : os.Started) (H : Type) (enc : TypeId × Value → H) :
    ReturnsInHanded {} Try.checked os 6 .any (Rows.oobTurnedSpec.pre6 enc Try.prog Try.f6 Rows.oobTurnedRow.domain false) (Rows.oobTurnedSpec.post enc Try.prog Try.f6 false true false false) := by
  refine returnsInHanded_of_change (C := Try.checked) own started (by kernel_rfl) Try.func6
    (ChangeSpec.witness6 (enc := enc) (C := Try.checked) false ⟨#[], #[.agg #[.int .i64 0, .int .i64 0, .int .i64 0], .slice none 0 0, .agg #[.int .i64 0, .int .i64 0]], []⟩ 8 (by kernel_rfl) (by kernel_rfl) (by kernel_rfl) (by kernel_rfl)) ?_
  intro W base args ds gs before hval0 hW _ _
  have hval : ∀ (j : Nat) t v, Try.f6.params[j]? = some t → args[j]? = some v → Value.okWide Try.prog W .any base t v := hval0
  have hW' := hW
  obtain ⟨p, q, hA0, hV, rfl, hfz, hnd⟩ := hW
  have hA : DataW.TrodAll enc Try.prog W 0 (fun _ => true) true Try.f6.params.toList args.toList ds p := hA0
  rw [Try.params6] at hA hval
  obtain ⟨v0, v1, v2, d0, d1, d2, p0, p1, p2, rfl, rfl, rfl, h0, h1, h2⟩ := trodAll_three hA
  obtain ⟨k0, l0, s0, rfl⟩ := open_oob Try.underlying23 rfl (by kernel_rfl) (by kernel_rfl) (hval 0 23 v0 rfl rfl) h0
  obtain ⟨A1, n1, c1, xs1, rfl, hnc1, hcm1, hr1⟩ := open_bytes Try.underlying24 Try.underlying5 one8 (hval 1 24 v1 rfl rfl) h1
  obtain ⟨y2, z2, rfl, hby2, hbz2⟩ := open_ints2 Try.underlying35 (by kernel_rfl) Try.underlying3 one64 (hval 2 35 v2 rfl rfl) h2
  refine (walk k0 l0 s0 A1 n1 c1 xs1 y2 z2 W hnc1 hcm1 hr1 hby2.1 hby2.2 hbz2.1 hbz2.2).mono fun e W' ⟨he, hb⟩ => ?_
  subst he
  exact ⟨_, rfl, Law.post laid (by kernel_rfl) (by kernel_rfl) Try.underlying4 rfl hW' rfl hb⟩

theorem proved : Rows.OobTurnedSaid :=
  OpenClaim.holds_of_wide 6 Try.f6 rfl rfl rfl rfl rfl rfl rfl ⟨rfl, rfl, rfl, rfl, rfl⟩ rfl rfl rfl rfl rfl (by kernel_rfl) Try.func6 (by kernel_rfl)
    (of_decide_eq_true (by kernel_rfl)) (by unfold Func.isWrapper; first | (rw [if_pos (by decide +kernel)]; kernel_rfl) | (rw [if_neg (by decide +kernel)]; exact ⟨rfl, rfl⟩))
    (fun os started H enc _ => lifted os started H enc)

end Go.Proofs.Ytmngleepfcndgaa.oobTurned
