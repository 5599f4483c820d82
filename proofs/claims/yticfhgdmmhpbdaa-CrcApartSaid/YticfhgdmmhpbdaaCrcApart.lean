/-
  CrcApart: for any two slices of bytes and any two bytes the law answers true, and they read afterwards as they read before. No condition.
-/
import Derived.Test.YticfhgdmmhpbdaaCrcKit
import Derived.OpenShut
import Derived.Deep.RegionHeld3
import Derived.Deep.AppendLies
import Derived.Deep.DeepCutAuto
namespace Go.Proofs.Yticfhgdmmhpbdaa.crcApart
open Go.ChangeShapes Go.WideShapes Go.ChangeAt Go.RowKit

theorem info8 : byteInfo Try.prog 5 := info_parts (by kernel_rfl)

section
variable {H : Type} {enc : TypeId × Value → H}
theorem open_bytes2 {P : Program} {W : World} {base : Nat} {t e : TypeId} {v : Value} {d : DataW H} {ps : List MemPlace} (ht : P.underlying t = some (.array 2 e)) (h2 : P.cellsOf t = 2) (he : P.underlying e = some (.int .u8)) (hc : P.cellsOf e = 1)
    (hv : Value.okWide P W .any base t v) (h : DataW.Trod enc P W 0 (fun _ => true) true t v d ps) :
    ∃ y z : UInt8, v = .agg #[.int .u8 (y.toNat : Int), .int .u8 (z.toNat : Int)] := by
  unfold Value.okWide at hv
  rw [ht] at hv
  obtain ⟨cs, rfl, hsz, _⟩ := hv
  rw [h2] at hsz
  obtain ⟨fuel, hf⟩ := h
  obtain ⟨xs, m, _, _, _, hl, hx⟩ := DataW.trod_array ht hf
  match xs, hl with
  | [x0, x1], _ =>
    have e0 := hx 0 (by omega)
    have e1 := hx 1 (by omega)
    rw [hc] at e0 e1
    obtain ⟨v0, v1, hcs⟩ : ∃ v0 v1, cs = #[v0, v1] := by
      obtain ⟨l⟩ := cs
      match l, hsz with
      | [v0, v1], _ => exact ⟨v0, v1, rfl⟩
    subst hcs
    simp [Value.cells] at e0 e1
    obtain ⟨y, hy, _, hwy⟩ := DataW.trod_int he e0
    obtain ⟨z, hz, _, hwz⟩ := DataW.trod_int he e1
    simp at hy hz
    subst hy hz
    exact ⟨u8 y, u8 z, by rw [u8_of hwy, u8_of hwz]⟩
end

theorem bytes_block {w : World} {g : Nat} {cs : Array Value} {e : TypeId} {fr : Nat × Nat} (xs : List UInt8) (h : w.heap[g]? = some (.cells cs e fr)) (hc : cs = (xs.map fun x => Value.int .u8 (x.toNat : Int)).toArray) : Bytes w (g + 1) (some ⟨g, 0, none⟩) xs.length xs := by
  subst hc
  refine ⟨rfl, fun i hi => ⟨g, 0, rfl, Nat.lt_succ_self _, ?_⟩⟩
  simp [World.cell?, h, hi]

theorem two_kept {w w2 : World} {o : Obj} {cs : Array Value} {e : TypeId} {row : Option Nat} (hg : ((w.alloc o).alloc (.cells cs e)).drew.grownBy w2 row) (hr : row = some w.heap.size) : w2.heap[w.heap.size + 1]? = some (.cells cs e) := by
  have h := heap_alloc_new (w.alloc o) (.cells cs e)
  rw [World.size_alloc] at h
  rw [hg.block (w.heap.size + 1) (by simp) (by rw [hr]; simp)]
  exact h

theorem two_kept' {w w2 : World} {o : Obj} {cs : Array Value} {e : TypeId} {row : Option Nat} (hg : ((w.alloc (.cells cs e)).alloc o).drew.grownBy w2 row) (hr : row = some (w.heap.size + 1)) : w2.heap[w.heap.size]? = some (.cells cs e) := by
  have h := heap_alloc_new w (.cells cs e)
  rw [hg.block w.heap.size (by simp; omega) (by rw [hr]; simp)]
  exact (Below.heap_alloc (w.alloc (.cells cs e)) o w.heap.size (by simp)).trans h

theorem own_later (w : World) (o : Obj) {e : TypeId} : Own ((w.alloc o).alloc (.cells #[] e)) w.heap.size e (.slice (some ⟨w.heap.size + 1, 0, none⟩) 0 0) [] := by
  have h := own_new (w.alloc o) e [] #[] rfl (Nat.zero_le _)
  rw [World.size_alloc] at h
  exact h.le (by omega)

set_option maxRecDepth 100000 in
set_option maxHeartbeats 3200000 in
theorem walk (A : Option Addr) (n c : Nat) (xs : List UInt8) (A' : Option Addr) (n' c' : Nat) (ys : List UInt8) (p q : UInt8) (w : World)
    (hnc : n ≤ c) (hcm : c ≤ maxLen) (hr : Bytes w w.heap.size A n xs) (hnc' : n' ≤ c') (hcm' : c' ≤ maxLen) (hr' : Bytes w w.heap.size A' n' ys) :
    Calls Try.prog 9 #[.slice A n c, .slice A' n' c', .agg #[.int .u8 (p.toNat : Int), .int .u8 (q.toNat : Int)]] w fun e w' => e = .returned (.bool true) ∧ Below w.heap.size w w' := by
  have HR := Lib.hid hr
  have HR' := Lib.hid hr'
  have hn := Nat.le_trans hnc hcm
  have hn' := Nat.le_trans hnc' hcm'
  clear hr hr' hnc hcm hnc' hcm'
  have HN := Lib.hid hn
  have HN' := Lib.hid hn'
  unfold maxLen at hn hn'
  go_enter Try.func9, Try.ntmps9
  go_wp2_with fail
  refine (awake_any _).mono ?_
  rintro e w1 ⟨rfl, hb⟩
  have hbw : Below w.heap.size w w1 := ((Below.refl w.heap.size w).alloc (Nat.le_refl _) _).trans (hb.mono (by simp))
  have hx0 : w1.cell? ⟨w.heap.size, 0, none⟩ = some (.int .u8 (p.toNat : Int)) := by
    rw [hb.cell (p := ⟨w.heap.size, 0, none⟩) (by simp), World.cell?_alloc_mark]; rfl
  have hx1 : w1.cell? ⟨w.heap.size, 1, none⟩ = some (.int .u8 (q.toNat : Int)) := by
    rw [hb.cell (p := ⟨w.heap.size, 1, none⟩) (by simp), World.cell?_alloc_mark]; rfl
  have hsz : w.heap.size + 1 ≤ w1.heap.size := by have := hb.size; simpa using this
  have HR1 := Lib.hid (bytes_more (bytes_keep HR.out hbw) (B' := w1.heap.size) (by omega))
  have HR1' := Lib.hid (bytes_more (bytes_keep HR'.out hbw) (B' := w1.heap.size) (by omega))
  have HB := Lib.hid hbw
  clear hb hbw HR HR'
  by_cases h1 : 10000 < n
  · go_wp2
    go_ret
    exact ⟨rfl, HB.out⟩
  by_cases h2 : 10000 < n'
  · go_wp2
    go_ret
    exact ⟨rfl, HB.out⟩
  by_cases h3 : p = q
  · subst h3
    go_wp2
    go_ret
    exact ⟨by simp, HB.out⟩
  have hpq : ((p.toNat : Int) == (q.toNat : Int)) = false := beq_eq_false_iff_ne.2 (fun e => h3 (UInt8.toNat_inj.1 (by omega)))
  have H3 := Lib.hid h3
  clear h3
  have HRa := HR1
  have HRb := HR1'
  go_upto_region 4 with fail
  go_cut [8] (fun s wx => Own wx w1.heap.size 5 s (xs ++ [p] ++ ys) ∧ Below w1.heap.size w1 wx)
  case first =>
    go_region_held3 (fun w' => w'.cell? ⟨w.heap.size, 0, none⟩ = some (.int .u8 (p.toNat : Int)))
      (first
        | go_keep
        | (rw [hB4.cell (p := ⟨w.heap.size, 0, none⟩) (by simp; omega)]; assumption)
        | (rw [hB3.cell (p := ⟨w.heap.size, 0, none⟩) (by simp; omega)]; assumption)
        | (rw [hB2.cell (p := ⟨w.heap.size, 0, none⟩) (by simp; omega)]; assumption))
      (first
        | (refine step_append_bytes _ (o := ⟨some 29, _, _, _, _, _⟩) (by rfl) _ _ _ (by rfl) w1.heap.size 5 Try.underlying22 info8 (.slice (some ⟨w1.heap.size, 0, none⟩) 0 0) [] (by rfl) (by exact own_new w1 _ [] _ rfl (Nat.zero_le _)) w1.heap.size A n c xs (by rfl) (by exact bytes_keep HRa.out (((Below.refl _ _).alloc (Nat.le_refl _) _).drew)) (by simp; omega) (by simp) ?_; intro v2 w2 ho2 hg2 _; have hB2 : Below w1.heap.size w1 w2 := (((Below.refl _ w1).alloc (Nat.le_refl _) _).drew).grown hg2 (by simp) (fun k hk => by simp [Value.ownBlock] at hk; omega); have hz2 := hB2.size; clear hg2)
        | (refine step_append_bytes _ (o := ⟨some 29, _, _, _, _, _⟩) (by rfl) _ _ _ (by rfl) w1.heap.size 5 Try.underlying22 info8 (.slice (some ⟨w1.heap.size, 0, none⟩) 0 0) [] (by rfl) (by exact (own_new w1 _ [] _ rfl (Nat.zero_le _)).alloc _) w1.heap.size A n c xs (by rfl) (by exact bytes_keep HRa.out ((((Below.refl _ _).alloc (Nat.le_refl _) _).alloc (by simp) _).drew)) (by simp; omega) (by simp; omega) ?_; intro v2 w2 ho2 hg2 _; have hB2 : Below w1.heap.size w1 w2 := ((((Below.refl _ w1).alloc (Nat.le_refl _) _).alloc (by simp) _).drew).grown hg2 (by simp; omega) (fun k hk => by simp [Value.ownBlock] at hk; omega); have hz2 := hB2.size; have hq := two_kept hg2 (by simp [Value.ownBlock]); clear hg2)
        | (refine step_append_bytes _ (o := ⟨some 29, _, _, _, _, _⟩) (by rfl) _ _ _ (by rfl) w1.heap.size 5 Try.underlying22 info8 (.slice (some ⟨w1.heap.size + 1, 0, none⟩) 0 0) [] (by rfl) (by exact own_later w1 _) w1.heap.size A n c xs (by rfl) (by exact bytes_keep HRa.out ((((Below.refl _ _).alloc (Nat.le_refl _) _).alloc (by simp) _).drew)) (by simp; omega) (by simp; omega) ?_; intro v2 w2 ho2 hg2 _; have hB2 : Below w1.heap.size w1 w2 := ((((Below.refl _ w1).alloc (Nat.le_refl _) _).alloc (by simp) _).drew).grown hg2 (by simp; omega) (fun k hk => by simp [Value.ownBlock] at hk; omega); have hz2 := hB2.size; have hq := two_kept' hg2 (by simp [Value.ownBlock]); clear hg2)
        | (refine step_append_bytes _ (o := ⟨some 33, _, _, _, _, _⟩) (by rfl) _ _ _ (by rfl) w1.heap.size 5 Try.underlying22 info8 v2 xs (by rfl) (by exact ho2.alloc _) (w2.heap.size + 1) (some ⟨w2.heap.size, 0, none⟩) 1 1 [p] (by rfl) (by exact bytes_new w2 [p] _ _ _ rfl) (by rw [HRa.out.1]; omega) (by simp; omega) ?_; intro v3 w3 ho3 hg3 _; have hB3 : Below w1.heap.size w1 w3 := (hB2.alloc hz2 _).grown hg3 (by simp; omega) ho2.block; have hz3 := hB3.size; clear hg3)
        | (refine step_append_bytes _ (o := ⟨some 33, _, _, _, _, _⟩) (by rfl) _ _ _ (by rfl) w1.heap.size 5 Try.underlying22 info8 v2 xs (by rfl) (by exact ho2) _ _ 1 1 [p] (by rfl) (by exact bytes_block [p] hq rfl) (by rw [HRa.out.1]; omega) hz2 ?_; intro v3 w3 ho3 hg3 _; have hB3 : Below w1.heap.size w1 w3 := hB2.grown hg3 hz2 ho2.block; have hz3 := hB3.size; clear hg3)
        | (refine step_append_bytes _ (o := ⟨some 35, _, _, _, _, _⟩) (by rfl) _ _ _ (by rfl) w1.heap.size 5 Try.underlying22 info8 v3 (xs ++ [p]) (by rfl) (by exact ho3) w1.heap.size A' n' c' ys (by rfl) (by exact bytes_keep HRb.out hB3) (by rw [List.length_append, HRa.out.1]; simp; omega) hz3 ?_; intro v4 w4 ho4 hg4 _; have hB4 : Below w1.heap.size w1 w4 := hB3.grown hg4 hz3 ho3.block; clear hg4))
    all_goals (go_wp2_with fail; go_meet; exact ⟨ho4, hB4⟩)
  case rest =>
    obtain ⟨hoa, hba⟩ := hcut
    rename World => wd
    have hszd := hba.size
    have hy1 : wd.cell? ⟨w.heap.size, 1, none⟩ = some (.int .u8 (q.toNat : Int)) := by rw [hba.cell (p := ⟨w.heap.size, 1, none⟩) (by simp; omega)]; exact hx1
    have HRc := Lib.hid (bytes_more (bytes_keep HRa.out hba) hszd)
    have HRd := Lib.hid (bytes_more (bytes_keep HRb.out hba) hszd)
    have HOA := Lib.hid hoa
    have HBA := Lib.hid hba
    clear hoa hba hx0 hx1
    go_upto_region 5 with fail
    go_cut [9] (fun s wx => Own wx wd.heap.size 5 s (xs ++ [q] ++ ys) ∧ Below wd.heap.size wd wx)
    case first =>
      go_region_held3 (fun w' => w'.cell? ⟨w.heap.size, 1, none⟩ = some (.int .u8 (q.toNat : Int)))
        (first
          | go_keep
          | (rw [hB4.cell (p := ⟨w.heap.size, 1, none⟩) (by simp; omega)]; assumption)
          | (rw [hB3.cell (p := ⟨w.heap.size, 1, none⟩) (by simp; omega)]; assumption)
          | (rw [hB2.cell (p := ⟨w.heap.size, 1, none⟩) (by simp; omega)]; assumption))
        (first
          | (refine step_append_bytes _ (o := ⟨some 38, _, _, _, _, _⟩) (by rfl) _ _ _ (by rfl) wd.heap.size 5 Try.underlying22 info8 (.slice (some ⟨wd.heap.size, 0, none⟩) 0 0) [] (by rfl) (by exact own_new wd _ [] _ rfl (Nat.zero_le _)) wd.heap.size A n c xs (by rfl) (by exact bytes_keep HRc.out (((Below.refl _ _).alloc (Nat.le_refl _) _).drew)) (by simp; omega) (by simp) ?_; intro v2 w2 ho2 hg2 _; have hB2 : Below wd.heap.size wd w2 := (((Below.refl _ wd).alloc (Nat.le_refl _) _).drew).grown hg2 (by simp) (fun k hk => by simp [Value.ownBlock] at hk; omega); have hz2 := hB2.size; clear hg2)
          | (refine step_append_bytes _ (o := ⟨some 38, _, _, _, _, _⟩) (by rfl) _ _ _ (by rfl) wd.heap.size 5 Try.underlying22 info8 (.slice (some ⟨wd.heap.size, 0, none⟩) 0 0) [] (by rfl) (by exact (own_new wd _ [] _ rfl (Nat.zero_le _)).alloc _) wd.heap.size A n c xs (by rfl) (by exact bytes_keep HRc.out ((((Below.refl _ _).alloc (Nat.le_refl _) _).alloc (by simp) _).drew)) (by simp; omega) (by simp; omega) ?_; intro v2 w2 ho2 hg2 _; have hB2 : Below wd.heap.size wd w2 := ((((Below.refl _ wd).alloc (Nat.le_refl _) _).alloc (by simp) _).drew).grown hg2 (by simp; omega) (fun k hk => by simp [Value.ownBlock] at hk; omega); have hz2 := hB2.size; have hq := two_kept hg2 (by simp [Value.ownBlock]); clear hg2)
          | (refine step_append_bytes _ (o := ⟨some 38, _, _, _, _, _⟩) (by rfl) _ _ _ (by rfl) wd.heap.size 5 Try.underlying22 info8 (.slice (some ⟨wd.heap.size + 1, 0, none⟩) 0 0) [] (by rfl) (by exact own_later wd _) wd.heap.size A n c xs (by rfl) (by exact bytes_keep HRc.out ((((Below.refl _ _).alloc (Nat.le_refl _) _).alloc (by simp) _).drew)) (by simp; omega) (by simp; omega) ?_; intro v2 w2 ho2 hg2 _; have hB2 : Below wd.heap.size wd w2 := ((((Below.refl _ wd).alloc (Nat.le_refl _) _).alloc (by simp) _).drew).grown hg2 (by simp; omega) (fun k hk => by simp [Value.ownBlock] at hk; omega); have hz2 := hB2.size; have hq := two_kept' hg2 (by simp [Value.ownBlock]); clear hg2)
          | (refine step_append_bytes _ (o := ⟨some 42, _, _, _, _, _⟩) (by rfl) _ _ _ (by rfl) wd.heap.size 5 Try.underlying22 info8 v2 xs (by rfl) (by exact ho2.alloc _) (w2.heap.size + 1) (some ⟨w2.heap.size, 0, none⟩) 1 1 [q] (by rfl) (by exact bytes_new w2 [q] _ _ _ rfl) (by rw [HRc.out.1]; omega) (by simp; omega) ?_; intro v3 w3 ho3 hg3 _; have hB3 : Below wd.heap.size wd w3 := (hB2.alloc hz2 _).grown hg3 (by simp; omega) ho2.block; have hz3 := hB3.size; clear hg3)
          | (refine step_append_bytes _ (o := ⟨some 42, _, _, _, _, _⟩) (by rfl) _ _ _ (by rfl) wd.heap.size 5 Try.underlying22 info8 v2 xs (by rfl) (by exact ho2) _ _ 1 1 [q] (by rfl) (by exact bytes_block [q] hq rfl) (by rw [HRc.out.1]; omega) hz2 ?_; intro v3 w3 ho3 hg3 _; have hB3 : Below wd.heap.size wd w3 := hB2.grown hg3 hz2 ho2.block; have hz3 := hB3.size; clear hg3)
          | (refine step_append_bytes _ (o := ⟨some 44, _, _, _, _, _⟩) (by rfl) _ _ _ (by rfl) wd.heap.size 5 Try.underlying22 info8 v3 (xs ++ [q]) (by rfl) (by exact ho3) wd.heap.size A' n' c' ys (by rfl) (by exact bytes_keep HRd.out hB3) (by rw [List.length_append, HRc.out.1]; simp; omega) hz3 ?_; intro v4 w4 ho4 hg4 _; have hB4 : Below wd.heap.size wd w4 := hB3.grown hg4 hz3 ho3.block; clear hg4))
      all_goals (go_wp2_with fail; go_meet; exact ⟨ho4, hB4⟩)
    case rest =>
      obtain ⟨hod, hbd⟩ := hcut
      have hoa2 : Own wc w1.heap.size 5 u8 (xs ++ [p] ++ ys) := HOA.out.keep fun k hk => hbd.block k (HOA.out.lt k hk)
      have hla := hoa2.len_le
      have hld := hod.len_le
      obtain ⟨A3, c3, rfl, hr3⟩ := hoa2.reads
      obtain ⟨A4, c4, rfl, hr4⟩ := hod.reads
      clear hoa2 HOA hod
      have hnb : (addI 0 (xs ++ [p] ++ ys) != addI 0 (xs ++ [q] ++ ys)) = true := bne_iff_ne.2 fun e => Crc.sum_ne_one xs ys H3.out (un_inj e)
      generalize xs ++ [p] ++ ys = L3 at hr3 hla hnb ⊢
      generalize xs ++ [q] ++ ys = L4 at hr4 hld hnb ⊢
      generalize L3.length = n3 at hr3 hla ⊢
      generalize L4.length = n4 at hr4 hld ⊢
      have HR3 := Lib.hid hr3
      have HR4 := Lib.hid hr4
      have HL3 := Lib.hid hla
      have HL4 := Lib.hid hld
      have HBD := Lib.hid hbd
      clear hr3 hr4 hla hld hbd
      go_wp2_with fail
      refine (sum_any _ _ _ _ L3 _ HL3.out HR3.out).mono ?_
      rintro e w4 ⟨rfl, rfl⟩
      go_wp2_with fail
      refine (sum_any _ _ _ _ L4 _ HL4.out HR4.out).mono ?_
      rintro e w5 ⟨rfl, rfl⟩
      go_wp2
      go_ret
      exact ⟨rfl, HB.out.trans ((HBA.out.trans (HBD.out.mono hszd)).mono (by omega))⟩

theorem own : ownKnob Try.prog.godebug = none := by kernel_rfl
theorem laid : laidOutB Try.prog = true := by kernel_rfl
theorem two8 : Try.prog.cellsOf 34 = 2 := by kernel_rfl
theorem one8 : Try.prog.cellsOf 5 = 1 := by kernel_rfl

set_option maxRecDepth 100000 in
theorem lifted (os : Os) (started : os.Started) (H : Type) (enc : TypeId × Value → H) :
    ReturnsInHanded {} Try.checked os 9 .any (Rows.crcApartSpec.pre6 enc Try.prog Try.f9 Rows.crcApartRow.domain false) (Rows.crcApartSpec.post enc Try.prog Try.f9 false true false false) := by
  refine returnsInHanded_of_change (C := Try.checked) own started (by kernel_rfl) Try.func9
    (ChangeSpec.witness6 (enc := enc) (C := Try.checked) false ⟨#[], #[.slice none 0 0, .slice none 0 0, .agg #[.int .u8 0, .int .u8 0]], []⟩ 8 (by kernel_rfl) (by kernel_rfl) (by kernel_rfl) (by kernel_rfl)) ?_
  intro W base args ds gs before hval0 hW _ _
  have hval : ∀ (j : Nat) t v, Try.f9.params[j]? = some t → args[j]? = some v → Value.okWide Try.prog W .any base t v := hval0
  have hW' := hW
  obtain ⟨p, q, hA0, hV, rfl, hfz, hnd⟩ := hW
  have hA : DataW.TrodAll enc Try.prog W 0 (fun _ => true) true Try.f9.params.toList args.toList ds p := hA0
  rw [Try.params9] at hA hval
  obtain ⟨v0, v1, v2, d0, d1, d2, p0, p1, p2, rfl, rfl, rfl, h0, h1, h2⟩ := trodAll_three hA
  obtain ⟨A0, n0, c0, xs0, rfl, hnc0, hcm0, hr0⟩ := open_bytes Try.underlying22 Try.underlying5 one8 (hval 0 22 v0 rfl rfl) h0
  obtain ⟨A1, n1, c1, xs1, rfl, hnc1, hcm1, hr1⟩ := open_bytes Try.underlying22 Try.underlying5 one8 (hval 1 22 v1 rfl rfl) h1
  obtain ⟨y2, z2, rfl⟩ := open_bytes2 Try.underlying34 two8 Try.underlying5 one8 (hval 2 34 v2 rfl rfl) h2
  refine (walk A0 n0 c0 xs0 A1 n1 c1 xs1 y2 z2 W hnc0 hcm0 hr0 hnc1 hcm1 hr1).mono fun e W' ⟨he, hb⟩ => ?_
  subst he
  exact ⟨_, rfl, Law.post laid (by kernel_rfl) (by kernel_rfl) Try.underlying4 rfl hW' rfl hb⟩

theorem proved : Rows.CrcApartSaid :=
  OpenClaim.holds_of_wide 9 Try.f9 rfl rfl rfl rfl rfl rfl rfl ⟨rfl, rfl, rfl, rfl, rfl⟩ rfl rfl rfl rfl rfl (by kernel_rfl) Try.func9 (by kernel_rfl)
    (of_decide_eq_true (by kernel_rfl)) (by unfold Func.isWrapper; first | (rw [if_pos (by decide +kernel)]; kernel_rfl) | (rw [if_neg (by decide +kernel)]; exact ⟨rfl, rfl⟩))
    (fun os started H enc _ => lifted os started H enc)

end Go.Proofs.Yticfhgdmmhpbdaa.crcApart
