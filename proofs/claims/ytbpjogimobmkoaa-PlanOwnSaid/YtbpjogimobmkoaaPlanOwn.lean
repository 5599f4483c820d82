/-
  PlanOwn: for every slice of bytes and every int the law answers true, and the slice reads afterwards as it read before. No condition.
-/
import Derived.Test.YtbpjogimobmkoaaPlanKit
namespace Go.Proofs.Ytbpjogimobmkoaa.planOwn
open Go.ChangeShapes Go.WideShapes Go.ChangeAt Go.RowKit Go.Proofs.Ytbpjogimobmkoaa.PlanPkg
set_option maxRecDepth 4000

theorem xor_flip (x : UInt8) : bits .xor .u8 (x.toNat : Int) 255 = ((x ^^^ 255).toNat : Int) := by
  have h := u8_xor_nat x.toNat 255 x.toNat_lt (by omega)
  rw [show ((255 : Nat) : Int) = 255 from rfl] at h
  rw [h, UInt8.toNat_xor]
  rfl

/-- A slice of n bytes of the call's own, whatever they are. -/
def Some (w : World) (base : Nat) (v : Value) (n : Nat) : Prop := ∃ ys : List UInt8, ys.length = n ∧ Own w base 5 v ys

/-- A place of it can be read and written. -/
theorem Some.at_ {w : World} {base n c k : Nat} {A : Option Addr} (h : Some w base (.slice A n c) n) (hk : k < n) :
    ∃ g, A = some ⟨g, 0, none⟩ ∧ base ≤ g ∧ g < w.heap.size ∧ ∃ y : UInt8, w.cell? ⟨g, k, none⟩ = some (.int .u8 (y.toNat : Int)) ∧ w.frozen? ⟨g, k, none⟩ = false ∧
      Some (w.setCell ⟨g, k, none⟩ (.int .u8 (bits .xor .u8 (y.toNat : Int) 255))) base (.slice A n c) n := by
  obtain ⟨ys, hl, ho⟩ := h
  obtain ⟨g, cap, hv, hg, _, _⟩ := ho.form (by omega)
  injection hv with hv
  subst hv
  have hc := ho.cell (i := k) (by omega)
  refine ⟨g, rfl, hg, ho.lt g rfl, ys[k], hc.1, hc.2, ys.set k (ys[k] ^^^ 255), by simp [hl], ?_⟩
  rw [xor_flip]
  exact ho.set k _

set_option maxHeartbeats 2000000 in
theorem walk (A : Option Addr) (n c : Nat) (xs : List UInt8) (many : Int) (w : World) (hnc : n ≤ c) (hcm : c ≤ maxLen) (hr : Bytes w w.heap.size A n xs) (h0 : -9223372036854775808 ≤ many) (h1 : many ≤ 9223372036854775807) :
    Calls Try.prog 6 #[.slice A n c, .int .i64 many] w fun e w' => e = .returned (.bool true) ∧ Below w.heap.size w w' := by
  have HR := Lib.hid hr
  clear hr
  have hn := Nat.le_trans hnc hcm
  unfold maxLen at hn hcm
  go_enter Try.func6, Try.ntmps6
  go_wp2_with fail
  refine (awake_any _).mono ?_
  rintro e w1 ⟨rfl, hb⟩
  have HB := Lib.hid hb
  clear hb
  by_cases hl : 2000 < n
  · go_wp2
    go_ret
    exact ⟨rfl, HB.out⟩
  by_cases hm : many < 0
  · go_wp2
    go_ret
    exact ⟨rfl, HB.out⟩
  by_cases hm2 : 2000 < many
  · go_wp2
    go_ret
    exact ⟨rfl, HB.out⟩
  obtain ⟨M, rfl⟩ := Int.eq_ofNat_of_zero_le (show 0 ≤ many by omega)
  have hM : M ≤ 2000 := by omega
  clear h0 h1 hm hm2
  have hlen : ([] : List UInt8).length + n ≤ 140737488355328 := by simp; omega
  have hxl : xs.length = n := HR.out.1
  go_wp2_with (at_builtin; refine wpList_append_bytes _ rfl _ _ _ rfl w1.heap.size 5 Try.underlying22 info8 _ [] rfl (own_new w1 5 [] _ rfl (Nat.zero_le _)) w1.heap.size A n c xs rfl (bytes_keep (bytes_more (bytes_keep HR.out HB.out) HB.out.size) ((Below.refl w1.heap.size w1).alloc (Nat.le_refl _) _)) hlen (by simp) ?_)
  intro v2 w2 ho2 hg2 _
  replace ho2 : Own w2 w1.heap.size 5 v2 xs := ho2
  have hb2 := ((Below.refl w1.heap.size w1).alloc (Nat.le_refl _) _).grown hg2 (by simp) (fun k hk => by simp [Value.ownBlock] at hk; omega)
  replace HB := Lib.hid (below_on HB.out hb2 HB.out.size)
  obtain ⟨A2, c2, rfl, hr2⟩ := ho2.reads
  rw [hxl] at hr2 ⊢
  have HR2 := Lib.hid hr2
  clear ho2 hg2 hb2 hr2
  go_wp2_with fail
  refine (New_any A2 n c2 w2.heap.size xs w2 (by omega) HR2.out (Nat.le_refl _)).mono ?_
  rintro e w3 ⟨gp, rfl, hgp, hp, hb⟩
  have hlo1 : w.heap.size ≤ w2.heap.size := HB.out.size
  replace HB := Lib.hid (below_on HB.out hb HB.out.size)
  have HP := Lib.hid hp
  have hgp3 := hp.lt
  clear hp hb HR2
  generalize w2.heap.size = lo1 at hgp HP hlo1
  go_wp2_with (at_builtin; refine wpList_append_bytes _ rfl _ _ _ rfl w3.heap.size 5 Try.underlying22 info8 _ [] rfl (own_new w3 5 [] _ rfl (Nat.zero_le _)) w3.heap.size A n c xs rfl (bytes_keep (bytes_more (bytes_keep HR.out HB.out) HB.out.size) ((Below.refl w3.heap.size w3).alloc (Nat.le_refl _) _)) hlen (by simp) ?_)
  intro v4 w4 ho4 hg4 _
  replace ho4 : Own w4 w3.heap.size 5 v4 xs := ho4
  have hb4 := ((Below.refl w3.heap.size w3).alloc (Nat.le_refl _) _).grown hg4 (by simp) (fun k hk => by simp [Value.ownBlock] at hk; omega)
  have hlo3 : w.heap.size ≤ w3.heap.size := HB.out.size
  replace HB := Lib.hid (below_on HB.out hb4 HB.out.size)
  replace HP := Lib.hid (HP.out.below hb4 hgp)
  have h34 := hb4.size
  obtain ⟨A4, c4, hv4, hr4⟩ := ho4.reads
  rw [hxl] at hv4 hr4
  subst hv4
  have HO4 := Lib.hid ho4
  have HR4 := Lib.hid hr4
  clear ho4 hg4 hb4 hr4 hlen
  generalize w3.heap.size = lo3 at HO4 hgp3 h34 hlo3
  go_wp2_with fail
  refine (New_any A4 n c4 w4.heap.size xs w4 (by omega) HR4.out (Nat.le_refl _)).mono ?_
  rintro e w5 ⟨gq, rfl, hgq, hq, hb⟩
  have HBK := Lib.hid (HO4.out.lt)
  have HS := Lib.hid (show Some w5 lo3 (.slice A4 n c4) n from ⟨xs, hxl, HO4.out.keep fun k hk => hb.block k (HO4.out.lt k hk)⟩)
  replace HB := Lib.hid (below_on HB.out hb HB.out.size)
  replace HP := Lib.hid (HP.out.below hb hgp)
  have HQ := Lib.hid hq
  have hgq5 := hq.lt
  clear hq hb HR4 HO4
  generalize w4.heap.size = lo2 at HQ HBK hgq h34
  have HX := Lib.hid hxl
  clear hxl
  have HA4 := Lib.hid (show ∀ g, A4 = some ⟨g, 0, none⟩ → g < lo2 from fun g h => HBK.out g (by rw [h]; rfl))
  clear HBK
  go_wp2
  go_loopw [9] (fun i wr => ∃ k : Nat, k ≤ n ∧ i = .int .i64 k ∧ Some wr lo3 (.slice A4 n c4) n ∧ At wr lo1 gp xs 0 ∧ At wr lo2 gq xs 0 ∧ Below w.heap.size w wr) (fun i _ => n - (intOf i).toNat)
  case atStart => exact ⟨0, by omega, rfl, HS.out, HP.out, HQ.out, HB.out⟩
  case round =>
    obtain ⟨k, hk, rfl, hs, hp, hq, hb⟩ := hrel
    clear HS HP HQ HB
    have HS := Lib.hid hs
    have HP := Lib.hid hp
    have HQ := Lib.hid hq
    have HB := Lib.hid hb
    clear hs hp hq hb
    by_cases hlt : k < n
    · obtain ⟨g4, hA, hg3, hg4, y, hc, hf, hs2⟩ := HS.out.at_ hlt
      have hg5 := HA4.out g4 hA
      replace HS := Lib.hid hs2
      have HA := Lib.hid hA
      clear hs2 hA
      rw [HA.out]
      go_wp2
      go_roundw
      case rel =>
        have hgr := grown_setCell wr ⟨g4, k, none⟩ (.int .u8 (bits .xor .u8 (y.toNat : Int) 255))
        exact ⟨k + 1, by omega, by go_num, by have h := HS.out; rw [HA.out] at h; exact h, HP.out.grown hgr hgp (by simp; omega), HQ.out.grown hgr hgq (by simp; omega), below_of_grown HB.out hgr HB.out.size (by simp; omega)⟩
      case measure => simp [intOf]; omega
    · clear HS HA4 hk
      go_wp2
      go_loopw [10] (fun i wr => ∃ k : Nat, k ≤ M ∧ i = .int .i64 k ∧ At wr lo1 gp (xs.drop k) k ∧ At wr lo2 gq (xs.drop k) k ∧ Below w.heap.size w wr) (fun i _ => M - (intOf i).toNat)
      case atStart => exact ⟨0, by omega, rfl, HP.out, HQ.out, HB.out⟩
      case round =>
        obtain ⟨j, hj, rfl, hp, hq, hb⟩ := hrel
        clear HP HQ HB
        have HP := Lib.hid hp
        have HQ := Lib.hid hq
        have HB := Lib.hid hb
        clear hp hq hb
        by_cases hlt2 : j < M
        · by_cases hlt3 : j ≤ n
          · have hln : (xs.drop j).length ≤ 2000 := by rw [List.length_drop, HX.out]; omega
            obtain ⟨ts, hts⟩ : ∃ ts, ts = xs.drop j := ⟨_, rfl⟩
            have HT := Lib.hid (show ts.tail = xs.drop (j + 1) by rw [hts, List.tail_drop])
            rw [← hts] at HP HQ hln
            clear hts
            go_wp2_with fail
            refine (Rest_any lo2 gq ts j wr HQ.out (by omega)).mono ?_
            rintro e w6 ⟨v6, rfl, ho, hb⟩
            obtain ⟨A6, c6, rfl, _⟩ := ho.reads
            replace HP := Lib.hid (HP.out.below hb hgp)
            have hq6 := HQ.out.lt
            have hp6 : gp < wr.heap.size := Nat.lt_of_lt_of_le (by omega) (show lo2 ≤ wr.heap.size by omega)
            replace HQ := Lib.hid (HQ.out.below hb hgq)
            have hwr : w.heap.size ≤ wr.heap.size := HB.out.size
            replace HB := Lib.hid (below_on HB.out hb HB.out.size)
            obtain ⟨m, hm⟩ : ∃ m, m = ts.length := ⟨_, rfl⟩
            rw [← hm] at hln ⊢
            have HS := Lib.hid (show Some w6 wr.heap.size (.slice A6 m c6) m from ⟨ts, hm.symm, by rw [hm]; exact ho⟩)
            clear ho hb hm
            generalize wr.heap.size = lo6 at HS hq6 hp6 hwr
            go_wp2
            go_loopw [12] (fun i wr => ∃ k : Nat, k ≤ m ∧ i = .int .i64 k ∧ Some wr lo6 (.slice A6 m c6) m ∧ At wr lo1 gp ts j ∧ At wr lo2 gq ts j ∧ Below w.heap.size w wr) (fun i _ => m - (intOf i).toNat)
            case atStart => exact ⟨0, by omega, rfl, HS.out, HP.out, HQ.out, HB.out⟩
            case round =>
              obtain ⟨k, hk, rfl, hs, hp, hq, hb⟩ := hrel
              clear HS HP HQ HB
              have HS := Lib.hid hs
              have HP := Lib.hid hp
              have HQ := Lib.hid hq
              have HB := Lib.hid hb
              clear hs hp hq hb
              by_cases hlt4 : k < m
              · obtain ⟨g4, hA, hg3, hg4, y, hc, hf, hs2⟩ := HS.out.at_ hlt4
                replace HS := Lib.hid hs2
                have HA := Lib.hid hA
                clear hs2 hA
                rw [HA.out]
                go_wp2
                go_roundw
                case rel =>
                  have hgr := grown_setCell wr ⟨g4, k, none⟩ (.int .u8 (bits .xor .u8 (y.toNat : Int) 255))
                  exact ⟨k + 1, by omega, by go_num, by have h := HS.out; rw [HA.out] at h; exact h, HP.out.grown hgr hgp (by simp; omega), HQ.out.grown hgr hgq (by simp; omega), below_of_grown HB.out hgr HB.out.size (by simp; omega)⟩
                case measure => simp [intOf]; omega
              · clear HS hk
                go_wp2_with fail
                refine (Next_any lo1 gp ts j 3 _ HP.out (by omega) (by omega)).mono ?_
                rintro e w7 ⟨rfl, hp, hgr⟩
                replace HB := Lib.hid (below_of_grown HB.out hgr HB.out.size (by omega))
                replace HQ := Lib.hid (HQ.out.grown hgr hgq (by omega))
                replace HP := Lib.hid hp
                clear hp hgr
                go_wp2_with fail
                refine (Next_any lo2 gq ts j 3 w7 HQ.out (by omega) (by omega)).mono ?_
                rintro e w8 ⟨rfl, hp, hgr⟩
                replace HB := Lib.hid (below_of_grown HB.out hgr HB.out.size (by omega))
                replace HP := Lib.hid (HP.out.grown hgr hgp (by omega))
                replace HQ := Lib.hid hp
                clear hp hgr
                generalize Plan.says ts = a
                generalize Plan.many ts 3 = b
                go_wp2
                go_roundw
                case rel => exact ⟨j + 1, by omega, by go_num, by rw [← HT.out]; exact HP.out, by rw [← HT.out]; exact HQ.out, HB.out⟩
                case measure => simp [intOf]; omega
          · go_wp2
            go_ret
            exact ⟨rfl, HB.out⟩
        · go_wp2
          go_ret
          exact ⟨rfl, HB.out⟩


theorem own : ownKnob Try.prog.godebug = none := by kernel_rfl
theorem laid : laidOutB Try.prog = true := by kernel_rfl
theorem one8 : Try.prog.cellsOf 5 = 1 := by kernel_rfl

set_option maxRecDepth 100000 in
theorem lifted (os : Os) (started : os.Started) (H : Type) (enc : TypeId × Value → H) :
    ReturnsInHanded {} Try.checked os 6 .any (Rows.planOwnSpec.pre6 enc Try.prog Try.f6 Rows.planOwnRow.domain false) (Rows.planOwnSpec.post enc Try.prog Try.f6 false true false false) := by
  refine returnsInHanded_of_change (C := Try.checked) own started (by kernel_rfl) Try.func6
    (ChangeSpec.witness6 (enc := enc) (C := Try.checked) false ⟨#[], #[.slice none 0 0, .int .i64 0], []⟩ 8 (by kernel_rfl) (by kernel_rfl) (by kernel_rfl) (by kernel_rfl)) ?_
  intro W base args ds gs before hval0 hW _ _
  have hval : ∀ (j : Nat) t v, Try.f6.params[j]? = some t → args[j]? = some v → Value.okWide Try.prog W .any base t v := hval0
  have hW' := hW
  obtain ⟨p, q, hA0, hV, rfl, hfz, hnd⟩ := hW
  have hA : DataW.TrodAll enc Try.prog W 0 (fun _ => true) true Try.f6.params.toList args.toList ds p := hA0
  rw [Try.params6] at hA hval
  obtain ⟨v0, v1, d0, d1, p0, p1, rfl, rfl, rfl, h0, h1⟩ := trodAll_two hA
  obtain ⟨A0, n0, c0, xs0, rfl, hnc0, hcm0, hr0⟩ := open_bytes Try.underlying22 Try.underlying5 one8 (hval 0 22 v0 rfl rfl) h0
  obtain ⟨a1, rfl, rfl, rfl, wf1⟩ := open_int Try.underlying3 (hval 1 3 v1 rfl rfl) h1
  have hb1 : -9223372036854775808 ≤ a1 ∧ a1 ≤ 9223372036854775807 := by simpa [Lit.wf, IntKind.min, IntKind.max, IntKind.signed, IntKind.bits] using wf1
  refine (walk A0 n0 c0 xs0 a1 W hnc0 hcm0 hr0 hb1.1 hb1.2).mono fun e W' ⟨he, hb⟩ => ?_
  subst he
  exact ⟨_, rfl, Law.post laid (by kernel_rfl) (by kernel_rfl) Try.underlying4 rfl hW' rfl hb⟩

theorem proved : Rows.PlanOwnSaid :=
  OpenClaim.holds_of_wide 6 Try.f6 rfl rfl rfl rfl rfl rfl rfl ⟨rfl, rfl, rfl, rfl, rfl⟩ rfl rfl rfl rfl rfl (by kernel_rfl) Try.func6 (by kernel_rfl)
    (of_decide_eq_true (by kernel_rfl)) (by unfold Func.isWrapper; first | (rw [if_pos (by decide +kernel)]; kernel_rfl) | (rw [if_neg (by decide +kernel)]; exact ⟨rfl, rfl⟩))
    (fun os started H enc _ => lifted os started H enc)

end Go.Proofs.Ytbpjogimobmkoaa.planOwn
