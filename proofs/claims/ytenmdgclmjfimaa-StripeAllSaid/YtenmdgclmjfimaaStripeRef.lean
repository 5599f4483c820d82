/-
  The document's answer for layer 9: for every input.
-/
import Derived.Test.YtenmdgclmjfimaaStripeMath
import Derived.Test.YtenmdgclmjfimaaGeomRef
import Derived.Test.YtenmdgclmjfimaaGeomRefOf
import Derived.Test.YtenmdgclmjfimaaIntsOwn
import Derived.Deep.RegionHeld3
namespace Go.Proofs.Ytenmdgclmjfimaa.StripeRef
open Go.RowKit Stripe
set_option maxRecDepth 4000

theorem below_drawn {B : Nat} {a w : World} (h : Below B a w) (n : Nat) : Below B a (w.drewN n) := ⟨h.os, h.tape, h.output, h.size, h.block⟩

theorem has_no {zs : List Int} {k : Nat} {z : Int} {n : Int} (h : ∀ x ∈ zs.take k, x ≠ n) (hz : zs[k]? = some z) (hn : ¬ z = n) : ∀ x ∈ zs.take (k + 1), x ≠ n := fun x hx => by
  obtain ⟨hl, hzq⟩ := List.getElem?_eq_some_iff.1 hz
  rw [List.take_succ_eq_append_getElem hl] at hx
  rcases List.mem_append.1 hx with hx | hx
  · exact h x hx
  · rw [List.mem_singleton.1 hx, hzq]
    exact hn

theorem Has_any (A : Option Addr) (n cp B : Nat) (zs : List Int) (y : Int) (w : World) (hn : n ≤ maxLen) (hz : Nums w B A n zs) :
    Calls Try.prog 20 #[.slice A n cp, .int .i64 y] w fun e w' => e = .returned (.bool (dd zs y)) ∧ w' = w := by
  have hnm : n ≤ 9223372036854775807 := hn
  have HZ := Lib.hid hz
  have HL := Lib.hid hz.1
  obtain ⟨ans, hans⟩ : ∃ ans, ans = dd zs y := ⟨_, rfl⟩
  rw [← hans]
  have HA := Lib.hid hans
  clear hz hn hans
  go_enter Try.func20, Try.ntmps20
  go_wp2
  go_loopw [5] (fun i wr => ∃ k : Nat, i = .int .i64 k ∧ k ≤ n ∧ (∀ x ∈ zs.take k, x ≠ y) ∧ wr = w) (fun i _ => n - (intOf i).toNat)
  case atStart => exact ⟨0, rfl, by omega, by simp, rfl⟩
  case round =>
    obtain ⟨k, rfl, hk, hno, hwr⟩ := hrel
    subst wr
    have HNO := Lib.hid hno
    clear hno
    by_cases hlt : k < n
    · obtain ⟨b0, o0, z, rfl, hb0, hzk, hc, z0, z1⟩ := HZ.out.at_ hlt
      have HZK := Lib.hid hzk
      clear hzk
      by_cases he : z = y
      · have HE : Hid (true = ans) := Lib.hid (by
          rw [HA.out]
          unfold dd
          rw [decide_eq_true]
          rw [← he]
          exact List.mem_of_getElem? HZK.out)
        subst he
        go_wp2
        go_ret
        exact ⟨by rw [← HE.out]; rfl, rfl⟩
      · have de : (z == y) = false := by simpa using he
        go_wp2
        go_roundw
        case measure => simp [intOf]; omega
        case rel => exact ⟨k + 1, by go_num, by omega, has_no HNO.out HZK.out he, by first | rfl | trivial⟩
    · have HE : Hid (false = ans) := Lib.hid (by
        rw [HA.out]
        unfold dd
        rw [decide_eq_false]
        intro hm
        refine HNO.out y ?_ rfl
        rw [List.take_of_length_le (by have := HL.out; omega)]
        exact hm)
      go_wp2
      go_ret
      exact ⟨by rw [← HE.out]; rfl, rfl⟩

section
variable {c l k p s U R L N : Int}

theorem all_bad (h : ¬ Geom.ok c l k p s) (A : Option Addr) (n cp : Nat) (x : Int) (w : World) :
    Calls Try.prog 24 #[.agg #[.int .i64 c, .int .i64 l, .int .i64 k, .int .i64 p, .int .i64 s], .slice A n cp, .int .i64 x] w fun e w' => e = .returned (.slice none 0 0) ∧ Below w.heap.size w w' := by
  have HB := Lib.hid ((Below.refl w.heap.size w).alloc (Nat.le_refl _) (.cells #[.int .i64 c, .int .i64 l, .int .i64 k, .int .i64 p, .int .i64 s] 23))
  have HR := Lib.hid (fun w => rright_bad h w)
  clear h
  go_enter Try.func24, Try.ntmps24
  go_wp2_with fail
  refine (HR.out _).mono ?_
  rintro e w2 ⟨rfl, hb⟩
  replace HB := Lib.hid (below_then HB.out hb)
  clear hb
  go_wp2
  go_ret
  exact ⟨rfl, HB.out⟩

theorem geo_low {w wr : World} {b : Nat} (h : Geo w b c l k p s) (hb : Below (b + 1) w wr) : Geo wr b c l k p s :=
  ⟨(hb.cell (p := ⟨b, 0, none⟩) (Nat.lt_succ_self _)).trans h.1, (hb.cell (p := ⟨b, 1, none⟩) (Nat.lt_succ_self _)).trans h.2.1, (hb.cell (p := ⟨b, 2, none⟩) (Nat.lt_succ_self _)).trans h.2.2.1, (hb.cell (p := ⟨b, 3, none⟩) (Nat.lt_succ_self _)).trans h.2.2.2.1, (hb.cell (p := ⟨b, 4, none⟩) (Nat.lt_succ_self _)).trans h.2.2.2.2⟩

theorem infoI : intInfo Try.prog 3 := info_parts (by kernel_rfl)

set_option maxHeartbeats 1600000 in
theorem all_ok (h : Geom.Sizes c l k p s U R L N) (A : Option Addr) (n cp B : Nat) (zs : List Int) (x : Int) (w : World) (hn : n ≤ maxLen) (hz : Nums w B A n zs) (hB : B ≤ w.heap.size) :
    Calls Try.prog 24 #[.agg #[.int .i64 c, .int .i64 l, .int .i64 k, .int .i64 p, .int .i64 s], .slice A n cp, .int .i64 x] w fun e w' => ∃ v, e = .returned v ∧ OwnI w' w.heap.size 3 v (sel (good zs U x) (U * p).toNat) ∧ Below w.heap.size w w' := by
  have HB := Lib.hid ((Below.refl w.heap.size w).alloc (Nat.le_refl _) (.cells #[.int .i64 c, .int .i64 l, .int .i64 k, .int .i64 p, .int .i64 s] 23))
  have HG := Lib.hid (geo_new w 23 c l k p s)
  have HR := Lib.hid (fun w => rright_ok h.may w)
  have HU := Lib.hid (fun w => runits_ok h w)
  have HH := Lib.hid (fun y wr (hb : Below w.heap.size w wr) => Has_any A n cp B zs y wr hn (nums_keep hz (hb.mono hB)))
  have hup := Geom.mul_bd h.u0 h.u1 h.may.2.2.2.2.2.2.1 h.may.2.2.2.2.2.2.2.1
  have hU0 := h.u0
  have hU1 := h.u1
  have hp0 := h.may.2.2.2.2.2.2.1
  have hp1 := h.may.2.2.2.2.2.2.2.1
  clear h hz hn
  go_enter Try.func24, Try.ntmps24
  go_wp2_with fail
  refine (HR.out _).mono ?_
  rintro e w2 ⟨rfl, hb⟩
  replace HB := Lib.hid (below_then HB.out hb)
  replace HG := Lib.hid (geo_keep HG.out hb)
  clear hb
  have hs2 : w.heap.size + 1 ≤ w2.heap.size := World.block_lt_of_cell? _ _ HG.out.1
  obtain ⟨P, hP⟩ : ∃ P : Nat, p = (P : Int) := ⟨p.toNat, by omega⟩
  obtain ⟨V, hV⟩ : ∃ V : Nat, U = (V : Int) := ⟨U.toNat, by omega⟩
  have HPP := Lib.hid hP
  have HVV := Lib.hid hV
  have HM : Hid ((U * p).toNat = P * V) := Lib.hid (by rw [hP, hV, Int.mul_comm]; exact Int.toNat_natCast _)
  have hPV : P * V ≤ 1000 := by have := HM.out; omega
  have HF := Lib.hid (fun (pg u : Nat) (hu : u < V) => live_at (zs := zs) (U := U) (q := (pg : Int)) (u := (u : Int)) (by omega) (by omega))
  have hV8 : V ≤ 8 := by omega
  have hP32 : P ≤ 32 := by omega
  clear hP hV
  go_wp2
  go_loopw [7, 8, 9] (fun v kv pv wr => ∃ pg kk : Nat, kv = .int .i64 (kk : Int) ∧ pv = .int .i64 (pg : Int) ∧ pg ≤ P ∧ kk = pg * V ∧ OwnI wr (w.heap.size + 1) 3 v (sel (good zs U x) kk) ∧ Below (w.heap.size + 1) w2 wr) (fun _ _ pv _ => P - (intOf pv).toNat)
  case atStart => exact ⟨0, 0, rfl, rfl, by omega, by omega, ownI_nil _ _ _, Below.refl _ _⟩
  case round =>
    obtain ⟨pg, kk, rfl, rfl, hpg, hkk, ho, hbw⟩ := hrel
    have HO := Lib.hid ho
    have HKK := Lib.hid hkk
    have HBW := Lib.hid hbw
    clear ho hbw hkk
    obtain ⟨k0, k1, k2, k3, k4⟩ := geo_low HG.out HBW.out
    by_cases hlt : pg < P
    · have dl : decide ((pg : Int) < p) = true := by have := HPP.out; simp; omega
      have HK1 := Lib.hid (Nat.mul_le_mul_right V (show pg + 1 ≤ P from hlt))
      go_wp2
      clear k0 k1 k2 k3 k4
      go_loopw [7, 8, 10] (fun v kv uv wr => ∃ u kk : Nat, kv = .int .i64 (kk : Int) ∧ uv = .int .i64 (u : Int) ∧ u ≤ V ∧ kk = pg * V + u ∧ OwnI wr (w.heap.size + 1) 3 v (sel (good zs U x) kk) ∧ Below (w.heap.size + 1) w2 wr) (fun _ _ uv _ => V - (intOf uv).toNat)
      case atStart => exact ⟨0, kk, rfl, rfl, by omega, HKK.out, HO.out, HBW.out⟩
      case round =>
        obtain ⟨u, kk, rfl, rfl, hu, hkk, ho, hbw⟩ := hrel
        clear HO HKK HBW
        have HO := Lib.hid ho
        have HKK := Lib.hid hkk
        have HBW := Lib.hid hbw
        have hkb : kk ≤ 1000 := by have := HK1.out; rw [Nat.add_mul, Nat.one_mul] at this; omega
        clear ho hbw hkk
        obtain ⟨k0, k1, k2, k3, k4⟩ := geo_low HG.out HBW.out
        go_wp2_with fail
        refine (HU.out _).mono ?_
        rintro e w5 ⟨rfl, hb⟩
        have HB5 : Hid (Below (w.heap.size + 1) w2 w5) := Lib.hid (HBW.out.trans (hb.mono (Nat.le_trans hs2 HBW.out.size)))
        have HO5 := Lib.hid (HO.out.below hb)
        clear hb k0 k1 k2 k3 k4
        by_cases hult : u < V
        · have du : decide ((u : Int) < U) = true := by have := HVV.out; simp; omega
          have HLV := Lib.hid (HF.out pg u hult)
          rw [show ((pg : Int) * U + (u : Int)) = (kk : Int) by rw [HKK.out, HVV.out]; simp] at HLV
          go_wp2_with fail
          refine (HH.out (u : Int) w5 (HB.out.trans (HB5.out.mono (Nat.le_succ _)))).mono ?_
          rintro e w6 ⟨rfl, hw⟩
          subst w6
          obtain ⟨A2, m, c2, rfl⟩ := HO5.out.form
          cases hdd : dd zs (u : Int) with
          | false =>
            rw [hdd] at HLV
            have HL1 : Hid (live zs U (kk : Int) = true) := HLV
            clear hdd
            by_cases hge : x ≤ (kk : Int)
            · have dg : decide (x ≤ (kk : Int)) = true := by simpa using hge
              have hml : (sel (good zs U x) kk).length ≤ 1000000000000 := by have := sel_len (good zs U x) kk; omega
              have HE := Lib.hid (sel_yes (good_yes HL1.out hge))
              obtain ⟨ls, hls⟩ : ∃ ls, ls = sel (good zs U x) kk := ⟨_, rfl⟩
              rw [← hls] at hml HE HO5
              clear hls
              have hbs : w.heap.size + 1 ≤ w5.heap.size := Nat.le_trans hs2 HB5.out.size
              go_wp2_with (at_builtin; refine wpList_append_int w5 rfl _ _ _ rfl (w.heap.size + 1) 3 Try.underlying24 infoI (.slice A2 m c2) ls rfl HO5.out (kk : Int) rfl hml hbs ?_)
              intro v3 w3 ho3 hg3
              have HB3 := Lib.hid ((HB5.out.alloc hbs _).grown hg3 (by simp; omega) HO5.out.block)
              have HO3 := Lib.hid ho3
              clear ho3 hg3
              go_wp2
              go_roundw
              case rel => exact ⟨u + 1, kk + 1, by go_num, by go_num, by omega, by have := HKK.out; omega, by rw [HE.out]; exact HO3.out, HB3.out⟩
              case measure => simp [intOf]; omega
            · have dg : decide (x ≤ (kk : Int)) = false := by simp; omega
              go_wp2
              go_roundw
              case rel => exact ⟨u + 1, kk + 1, by go_num, by go_num, by omega, by have := HKK.out; omega, by rw [sel_no (good_less (by omega))]; exact HO5.out, HB5.out⟩
              case measure => simp [intOf]; omega
          | true =>
            rw [hdd] at HLV
            have HL1 : Hid (live zs U (kk : Int) = false) := HLV
            clear hdd
            go_wp2
            go_roundw
            case rel => exact ⟨u + 1, kk + 1, by go_num, by go_num, by omega, by have := HKK.out; omega, by rw [sel_no (good_dead HL1.out)]; exact HO5.out, HB5.out⟩
            case measure => simp [intOf]; omega
        · obtain rfl : u = V := by omega
          have du : decide ((u : Int) < U) = false := by have := HVV.out; simp; omega
          go_wp2
          go_roundw
          case rel => exact ⟨pg + 1, kk, by go_num, by go_num, by omega, by have := HKK.out; rw [Nat.add_mul, Nat.one_mul]; exact this, HO5.out, HB5.out⟩
          case measure => simp [intOf]; omega
    · obtain rfl : pg = P := by omega
      have dl : decide ((pg : Int) < p) = false := by have := HPP.out; simp; omega
      go_wp2
      go_ret
      exact ⟨_, rfl, by rw [HM.out, ← HKK.out]; exact HO.out.le (Nat.le_succ _), HB.out.trans (HBW.out.mono (Nat.le_succ _))⟩

theorem Next_bad (h : ¬ Geom.ok c l k p s) (A : Option Addr) (n cp : Nat) (x : Int) (w : World) :
    Calls Try.prog 11 #[.agg #[.int .i64 c, .int .i64 l, .int .i64 k, .int .i64 p, .int .i64 s], .slice A n cp, .int .i64 x] w fun e w' => e = .returned (.int .i64 (-1)) ∧ Below w.heap.size w w' := by
  have HB := Lib.hid ((Below.refl w.heap.size w).alloc (Nat.le_refl _) (.cells #[.int .i64 c, .int .i64 l, .int .i64 k, .int .i64 p, .int .i64 s] 23))
  have HA := Lib.hid (fun w => all_bad h A n cp x w)
  clear h
  go_enter Try.func11, Try.ntmps11
  go_wp2_with fail
  refine (HA.out _).mono ?_
  rintro e w2 ⟨rfl, hb⟩
  replace HB := Lib.hid (below_then HB.out hb)
  clear hb
  go_wp2
  go_ret
  exact ⟨rfl, HB.out⟩

theorem Left_bad (h : ¬ Geom.ok c l k p s) (A : Option Addr) (n cp : Nat) (x : Int) (w : World) :
    Calls Try.prog 17 #[.agg #[.int .i64 c, .int .i64 l, .int .i64 k, .int .i64 p, .int .i64 s], .slice A n cp, .int .i64 x] w fun e w' => e = .returned (.int .i64 0) ∧ Below w.heap.size w w' := by
  have HB := Lib.hid ((Below.refl w.heap.size w).alloc (Nat.le_refl _) (.cells #[.int .i64 c, .int .i64 l, .int .i64 k, .int .i64 p, .int .i64 s] 23))
  have HA := Lib.hid (fun w => all_bad h A n cp x w)
  clear h
  go_enter Try.func17, Try.ntmps17
  go_wp2_with fail
  refine (HA.out _).mono ?_
  rintro e w2 ⟨rfl, hb⟩
  replace HB := Lib.hid (below_then HB.out hb)
  clear hb
  go_wp2
  go_ret
  exact ⟨rfl, HB.out⟩

theorem sel_bd {f : Int → Bool} {m : Nat} (hm : m ≤ 1000000) : ∀ z ∈ sel f m, -9223372036854775808 ≤ z ∧ z ≤ 9223372036854775807 := fun z hz => by
  have := sel_mem.1 hz
  omega

theorem Left_ok (h : Geom.Sizes c l k p s U R L N) (A : Option Addr) (n cp B : Nat) (zs : List Int) (x : Int) (w : World) (hn : n ≤ maxLen) (hz : Nums w B A n zs) (hB : B ≤ w.heap.size) :
    Calls Try.prog 17 #[.agg #[.int .i64 c, .int .i64 l, .int .i64 k, .int .i64 p, .int .i64 s], .slice A n cp, .int .i64 x] w fun e w' => e = .returned (.int .i64 ((many zs U x (U * p).toNat : Nat) : Int)) ∧ Below w.heap.size w w' := by
  have hup := Geom.mul_bd h.u0 h.u1 h.may.2.2.2.2.2.2.1 h.may.2.2.2.2.2.2.2.1
  have HB := Lib.hid ((Below.refl w.heap.size w).alloc (Nat.le_refl _) (.cells #[.int .i64 c, .int .i64 l, .int .i64 k, .int .i64 p, .int .i64 s] 23))
  have HA := Lib.hid (fun wr (hb : Below w.heap.size w wr) => all_ok h A n cp B zs x wr hn (nums_keep hz (hb.mono hB)) (Nat.le_trans hB hb.size))
  unfold many
  have hbd := sel_bd (f := good zs U x) (m := (U * p).toNat) (by omega)
  generalize sel (good zs U x) (U * p).toNat = ls at HA hbd ⊢
  have HBD := Lib.hid hbd
  obtain ⟨m, hm⟩ : ∃ m, m = ls.length := ⟨_, rfl⟩
  rw [← hm]
  have HML := Lib.hid hm
  clear h hz hn hup hbd hm
  go_enter Try.func17, Try.ntmps17
  go_wp2_with fail
  refine (HA.out _ HB.out).mono ?_
  rintro e w2 ⟨v, rfl, ho, hb⟩
  obtain ⟨A2, c2, rfl, h1, h2, _⟩ := ho.reads HBD.out
  replace HB := Lib.hid (below_then HB.out hb)
  have hl : m ≤ 9223372036854775807 := by rw [HML.out]; exact Nat.le_trans h1 h2
  clear hb ho h1 h2
  rw [← HML.out]
  go_wp2
  go_ret
  exact ⟨rfl, HB.out⟩

theorem Next_ok (h : Geom.Sizes c l k p s U R L N) (A : Option Addr) (n cp B : Nat) (zs : List Int) (x : Int) (w : World) (hn : n ≤ maxLen) (hz : Nums w B A n zs) (hB : B ≤ w.heap.size) :
    Calls Try.prog 11 #[.agg #[.int .i64 c, .int .i64 l, .int .i64 k, .int .i64 p, .int .i64 s], .slice A n cp, .int .i64 x] w fun e w' => ∃ r, e = .returned (.int .i64 r) ∧ Nxt (live zs U) (max x 0) (U * p) r ∧ Below w.heap.size w w' := by
  have hup := Geom.mul_bd h.u0 h.u1 h.may.2.2.2.2.2.2.1 h.may.2.2.2.2.2.2.2.1
  have HB := Lib.hid ((Below.refl w.heap.size w).alloc (Nat.le_refl _) (.cells #[.int .i64 c, .int .i64 l, .int .i64 k, .int .i64 p, .int .i64 s] 23))
  have HA := Lib.hid (fun wr (hb : Below w.heap.size w wr) => all_ok h A n cp B zs x wr hn (nums_keep hz (hb.mono hB)) (Nat.le_trans hB hb.size))
  have hbd := sel_bd (f := good zs U x) (m := (U * p).toNat) (by omega)
  have hnx := sel_nxt zs U x (U * p).toNat
  rw [show (((U * p).toNat : Nat) : Int) = U * p by omega] at hnx
  generalize sel (good zs U x) (U * p).toNat = ls at HA hbd hnx
  have HBD := Lib.hid hbd
  rcases hnx with ⟨rfl, hnx⟩ | ⟨y, ls', rfl, hnx⟩
  · have HN := Lib.hid hnx
    clear h hz hn hup hbd hnx
    go_enter Try.func11, Try.ntmps11
    go_wp2_with fail
    refine (HA.out _ HB.out).mono ?_
    rintro e w2 ⟨v, rfl, ho, hb⟩
    obtain ⟨A2, c2, rfl, h1, h2, _⟩ := ho.reads HBD.out
    replace HB := Lib.hid (below_then HB.out hb)
    clear hb ho h1 h2
    simp only [List.length_nil]
    go_wp2
    go_ret
    exact ⟨-1, rfl, HN.out, HB.out⟩
  · have HN := Lib.hid hnx
    clear h hz hn hup hbd hnx
    go_enter Try.func11, Try.ntmps11
    go_wp2_with fail
    refine (HA.out _ HB.out).mono ?_
    rintro e w2 ⟨v, rfl, ho, hb⟩
    obtain ⟨A2, c2, rfl, h1, h2, h3⟩ := ho.reads HBD.out
    obtain ⟨bb, off, z, rfl, _, hz, hc, _, _⟩ := h3.at_ (k := 0) (by simp)
    simp at hz
    subst hz
    replace HB := Lib.hid (below_then HB.out hb)
    have hl : (y :: ls').length ≤ 9223372036854775807 := Nat.le_trans h1 h2
    obtain ⟨m, hm⟩ : ∃ m : Nat, (y :: ls').length = m + 1 := ⟨ls'.length, by simp⟩
    rw [hm] at hl ⊢
    rw [Nat.add_zero] at hc
    have dm : (((m + 1 : Nat) : Int) == 0) = false := by simp; omega
    clear hb ho h1 h2 h3 hm
    go_wp2
    go_ret
    exact ⟨_, rfl, HN.out, HB.out⟩

theorem First_l0 (h : Geom.Sizes c l k p s U R L N) (line x : Int) (hl : line < 0) (w : World) :
    Calls Try.prog 15 #[.agg #[.int .i64 c, .int .i64 l, .int .i64 k, .int .i64 p, .int .i64 s], .int .i64 line, .int .i64 x] w fun e w' => e = .returned (.tuple #[.int .i64 0, .int .i64 2]) ∧ Below w.heap.size w w' := by
  have HB := Lib.hid ((Below.refl w.heap.size w).alloc (Nat.le_refl _) (.cells #[.int .i64 c, .int .i64 l, .int .i64 k, .int .i64 p, .int .i64 s] 23))
  have HG := Lib.hid (geo_new w 23 c l k p s)
  have HR := Lib.hid (fun w => rright_ok h.may w)
  have HU := Lib.hid (fun w => runits_ok h w)
  have HL := Lib.hid (fun w => rline_ok h w)
  have hup := Geom.mul_bd h.u0 h.u1 h.may.2.2.2.2.2.2.1 h.may.2.2.2.2.2.2.2.1
  have d1 : decide (line < 0) = true := by simp; omega
  clear h hup
  go_enter Try.func15, Try.ntmps15
  go_wp2_with fail
  refine (HR.out _).mono ?_
  rintro e w2 ⟨rfl, hb⟩
  replace HB := Lib.hid (below_then HB.out hb)
  replace HG := Lib.hid (geo_keep HG.out hb)
  obtain ⟨k0, k1, k2, k3, k4⟩ := HG.out
  clear hb
  go_wp2_with fail
  go_quiet (fail)
  go_wp2
  go_ret2
  exact ⟨rfl, below_drawn HB.out _⟩

theorem First_l1 (h : Geom.Sizes c l k p s U R L N) (line x : Int) (l0 : 0 ≤ line) (hl : k ≤ line) (w : World) :
    Calls Try.prog 15 #[.agg #[.int .i64 c, .int .i64 l, .int .i64 k, .int .i64 p, .int .i64 s], .int .i64 line, .int .i64 x] w fun e w' => e = .returned (.tuple #[.int .i64 0, .int .i64 2]) ∧ Below w.heap.size w w' := by
  have HB := Lib.hid ((Below.refl w.heap.size w).alloc (Nat.le_refl _) (.cells #[.int .i64 c, .int .i64 l, .int .i64 k, .int .i64 p, .int .i64 s] 23))
  have HG := Lib.hid (geo_new w 23 c l k p s)
  have HR := Lib.hid (fun w => rright_ok h.may w)
  have HU := Lib.hid (fun w => runits_ok h w)
  have HL := Lib.hid (fun w => rline_ok h w)
  have hup := Geom.mul_bd h.u0 h.u1 h.may.2.2.2.2.2.2.1 h.may.2.2.2.2.2.2.2.1
  have d1 : decide (line < 0) = false := by simp; omega
  have d2 : decide (k ≤ line) = true := by simp; omega
  clear h hup
  go_enter Try.func15, Try.ntmps15
  go_wp2_with fail
  refine (HR.out _).mono ?_
  rintro e w2 ⟨rfl, hb⟩
  replace HB := Lib.hid (below_then HB.out hb)
  replace HG := Lib.hid (geo_keep HG.out hb)
  obtain ⟨k0, k1, k2, k3, k4⟩ := HG.out
  clear hb
  go_wp2_with fail
  go_quiet (fail)
  go_wp2
  go_ret2
  exact ⟨rfl, below_drawn HB.out _⟩

theorem First_x0 (h : Geom.Sizes c l k p s U R L N) (line x : Int) (l0 : 0 ≤ line) (l1 : line < k) (hx : x < 0) (w : World) :
    Calls Try.prog 15 #[.agg #[.int .i64 c, .int .i64 l, .int .i64 k, .int .i64 p, .int .i64 s], .int .i64 line, .int .i64 x] w fun e w' => e = .returned (.tuple #[.int .i64 0, .int .i64 2]) ∧ Below w.heap.size w w' := by
  have HB := Lib.hid ((Below.refl w.heap.size w).alloc (Nat.le_refl _) (.cells #[.int .i64 c, .int .i64 l, .int .i64 k, .int .i64 p, .int .i64 s] 23))
  have HG := Lib.hid (geo_new w 23 c l k p s)
  have HR := Lib.hid (fun w => rright_ok h.may w)
  have HU := Lib.hid (fun w => runits_ok h w)
  have HL := Lib.hid (fun w => rline_ok h w)
  have hup := Geom.mul_bd h.u0 h.u1 h.may.2.2.2.2.2.2.1 h.may.2.2.2.2.2.2.2.1
  have d1 : decide (line < 0) = false := by simp; omega
  have d2 : decide (k ≤ line) = false := by simp; omega
  have d3 : decide (x < 0) = true := by simp; omega
  clear h hup
  go_enter Try.func15, Try.ntmps15
  go_wp2_with fail
  refine (HR.out _).mono ?_
  rintro e w2 ⟨rfl, hb⟩
  replace HB := Lib.hid (below_then HB.out hb)
  replace HG := Lib.hid (geo_keep HG.out hb)
  obtain ⟨k0, k1, k2, k3, k4⟩ := HG.out
  clear hb
  go_wp2_with fail
  go_quiet (fail)
  go_wp2
  go_ret2
  exact ⟨rfl, below_drawn HB.out _⟩

theorem First_x1 (h : Geom.Sizes c l k p s U R L N) (line x : Int) (l0 : 0 ≤ line) (l1 : line < k) (h0 : 0 ≤ x) (hx : U * p ≤ x) (w : World) :
    Calls Try.prog 15 #[.agg #[.int .i64 c, .int .i64 l, .int .i64 k, .int .i64 p, .int .i64 s], .int .i64 line, .int .i64 x] w fun e w' => e = .returned (.tuple #[.int .i64 0, .int .i64 2]) ∧ Below w.heap.size w w' := by
  have HB := Lib.hid ((Below.refl w.heap.size w).alloc (Nat.le_refl _) (.cells #[.int .i64 c, .int .i64 l, .int .i64 k, .int .i64 p, .int .i64 s] 23))
  have HG := Lib.hid (geo_new w 23 c l k p s)
  have HR := Lib.hid (fun w => rright_ok h.may w)
  have HU := Lib.hid (fun w => runits_ok h w)
  have HL := Lib.hid (fun w => rline_ok h w)
  have hup := Geom.mul_bd h.u0 h.u1 h.may.2.2.2.2.2.2.1 h.may.2.2.2.2.2.2.2.1
  have hw1 : IntKind.i64.wrap (U * p) = U * p := kwrap_is (by omega) (by omega)
  have d1 : decide (line < 0) = false := by simp; omega
  have d2 : decide (k ≤ line) = false := by simp; omega
  have d3 : decide (x < 0) = false := by simp; omega
  have d4 : decide (U * p ≤ x) = true := by simp; omega
  clear h
  go_enter Try.func15, Try.ntmps15
  go_wp2_with fail
  refine (HR.out _).mono ?_
  rintro e w2 ⟨rfl, hb⟩
  replace HB := Lib.hid (below_then HB.out hb)
  replace HG := Lib.hid (geo_keep HG.out hb)
  obtain ⟨k0, k1, k2, k3, k4⟩ := HG.out
  clear hb
  go_wp2_with fail
  go_region_held3 (fun w' => w'.cell? ⟨w.heap.size, 0, none⟩ = some (.int .i64 c) ∧ w'.cell? ⟨w.heap.size, 1, none⟩ = some (.int .i64 l) ∧ w'.cell? ⟨w.heap.size, 2, none⟩ = some (.int .i64 k) ∧ w'.cell? ⟨w.heap.size, 3, none⟩ = some (.int .i64 p) ∧ w'.cell? ⟨w.heap.size, 4, none⟩ = some (.int .i64 s))
    (first | exact ⟨k0, k1, k2, k3, k4⟩ | exact geo_keep (by assumption) hb | go_keep)
    (first
      | (go_at_call 28; refine (HU.out _).mono ?_; rintro e w3 ⟨rfl, hb⟩; replace HB := Lib.hid (below_then HB.out.drew hb)))
  rename_i hH
  clear hH
  go_wp2
  go_ret2
  exact ⟨rfl, HB.out⟩

theorem First_in (h : Geom.Sizes c l k p s U R L N) (line x y : Int) (l0 : 0 ≤ line) (l1 : line < k) (h0 : 0 ≤ x) (h1 : x < U * p) (hy : y = line * L + x * s) (w : World) :
    Calls Try.prog 15 #[.agg #[.int .i64 c, .int .i64 l, .int .i64 k, .int .i64 p, .int .i64 s], .int .i64 line, .int .i64 x] w fun e w' => e = .returned (.tuple #[.int .i64 y, .int .i64 0]) ∧ Below w.heap.size w w' := by
  have HB := Lib.hid ((Below.refl w.heap.size w).alloc (Nat.le_refl _) (.cells #[.int .i64 c, .int .i64 l, .int .i64 k, .int .i64 p, .int .i64 s] 23))
  have HG := Lib.hid (geo_new w 23 c l k p s)
  have HR := Lib.hid (fun w => rright_ok h.may w)
  have HU := Lib.hid (fun w => runits_ok h w)
  have HL := Lib.hid (fun w => rline_ok h w)
  have hup := Geom.mul_bd h.u0 h.u1 h.may.2.2.2.2.2.2.1 h.may.2.2.2.2.2.2.2.1
  have hw1 : IntKind.i64.wrap (U * p) = U * p := kwrap_is (by omega) (by omega)
  have d1 : decide (line < 0) = false := by simp; omega
  have d2 : decide (k ≤ line) = false := by simp; omega
  have d3 : decide (x < 0) = false := by simp; omega
  have d4 : decide (U * p ≤ x) = false := by simp; omega
  have b1 : 0 ≤ line * L ∧ line * L ≤ 64 * 1024 := ⟨Int.mul_nonneg l0 (by have := h.l0; omega), Int.mul_le_mul (by have := h.may.2.2.2.2.2.1; omega) h.l1 (by have := h.l0; omega) (by omega)⟩
  have b2 : 0 ≤ x * s ∧ x * s ≤ 256 * 4 := ⟨Int.mul_nonneg h0 (by have := h.may.2.2.2.2.2.2.2.2.1; omega), Int.mul_le_mul (by omega) h.may.2.2.2.2.2.2.2.2.2 (by have := h.may.2.2.2.2.2.2.2.2.1; omega) (by omega)⟩
  have hw2 : IntKind.i64.wrap (line * L) = line * L := kwrap_is (by omega) (by omega)
  have hw3 : IntKind.i64.wrap (x * s) = x * s := kwrap_is (by omega) (by omega)
  have hw4 : IntKind.i64.wrap (line * L + x * s) = y := by rw [hy]; exact kwrap_is (by omega) (by omega)
  have hw5 : wrap64 (line * L + x * s) = y := by rw [hy]; exact wrap_is (by omega) (by omega)
  clear h hy
  go_enter Try.func15, Try.ntmps15
  go_wp2_with fail
  refine (HR.out _).mono ?_
  rintro e w2 ⟨rfl, hb⟩
  replace HB := Lib.hid (below_then HB.out hb)
  replace HG := Lib.hid (geo_keep HG.out hb)
  obtain ⟨k0, k1, k2, k3, k4⟩ := HG.out
  clear hb
  go_wp2_with fail
  go_region_held3 (fun w' => w'.cell? ⟨w.heap.size, 0, none⟩ = some (.int .i64 c) ∧ w'.cell? ⟨w.heap.size, 1, none⟩ = some (.int .i64 l) ∧ w'.cell? ⟨w.heap.size, 2, none⟩ = some (.int .i64 k) ∧ w'.cell? ⟨w.heap.size, 3, none⟩ = some (.int .i64 p) ∧ w'.cell? ⟨w.heap.size, 4, none⟩ = some (.int .i64 s))
    (first | exact ⟨k0, k1, k2, k3, k4⟩ | exact geo_keep (by assumption) hb | go_keep)
    (first
      | (go_at_call 28; refine (HU.out _).mono ?_; rintro e w3 ⟨rfl, hb⟩; replace HB := Lib.hid (below_then HB.out.drew hb).drew))
  rename_i hH
  obtain ⟨j0, j1, j2, j3, j4⟩ := hH
  clear k0 k1 k2 k3 k4 hb
  go_wp2_with fail
  go_region_held3 (fun w' => w'.cell? ⟨w.heap.size, 0, none⟩ = some (.int .i64 c) ∧ w'.cell? ⟨w.heap.size, 1, none⟩ = some (.int .i64 l) ∧ w'.cell? ⟨w.heap.size, 2, none⟩ = some (.int .i64 k) ∧ w'.cell? ⟨w.heap.size, 3, none⟩ = some (.int .i64 p) ∧ w'.cell? ⟨w.heap.size, 4, none⟩ = some (.int .i64 s))
    (first | exact ⟨j0, j1, j2, j3, j4⟩ | exact geo_keep (by assumption) hb | go_keep)
    (first
      | (go_at_call 29; refine (HL.out _).mono ?_; rintro e w4 ⟨rfl, hb⟩; replace HB := Lib.hid (below_then HB.out hb)))
  rename_i hH
  clear hH
  go_wp2
  go_ret2
  exact ⟨rfl, HB.out⟩

theorem First_bad (h : ¬ Geom.ok c l k p s) (line x : Int) (w : World) :
    Calls Try.prog 15 #[.agg #[.int .i64 c, .int .i64 l, .int .i64 k, .int .i64 p, .int .i64 s], .int .i64 line, .int .i64 x] w fun e w' => e = .returned (.tuple #[.int .i64 0, .int .i64 1]) ∧ Below w.heap.size w w' := by
  have HB := Lib.hid ((Below.refl w.heap.size w).alloc (Nat.le_refl _) (.cells #[.int .i64 c, .int .i64 l, .int .i64 k, .int .i64 p, .int .i64 s] 23))
  have HR := Lib.hid (fun w => rright_bad h w)
  clear h
  go_enter Try.func15, Try.ntmps15
  go_wp2_with fail
  refine (HR.out _).mono ?_
  rintro e w2 ⟨rfl, hb⟩
  replace HB := Lib.hid (below_then HB.out hb)
  clear hb
  go_wp2
  go_ret2
  exact ⟨rfl, HB.out⟩

theorem First_out (h : Geom.Sizes c l k p s U R L N) (line x : Int) (hn : ¬ (0 ≤ line ∧ line < k ∧ 0 ≤ x ∧ x < U * p)) (w : World) :
    Calls Try.prog 15 #[.agg #[.int .i64 c, .int .i64 l, .int .i64 k, .int .i64 p, .int .i64 s], .int .i64 line, .int .i64 x] w fun e w' => e = .returned (.tuple #[.int .i64 0, .int .i64 2]) ∧ Below w.heap.size w w' := by
  by_cases h1 : line < 0
  · exact First_l0 h line x h1 w
  by_cases h2 : k ≤ line
  · exact First_l1 h line x (by omega) h2 w
  by_cases h3 : x < 0
  · exact First_x0 h line x (by omega) (by omega) h3 w
  · exact First_x1 h line x (by omega) (by omega) (by omega) (by omega) w

theorem spot_of {x er : Int} (hF : ∀ w, Calls Try.prog 15 #[.agg #[.int .i64 c, .int .i64 l, .int .i64 k, .int .i64 p, .int .i64 s], .int .i64 0, .int .i64 x] w fun e w' => e = .returned (.tuple #[.int .i64 0, .int .i64 er]) ∧ Below w.heap.size w w') (he : ¬ er = 0) (w : World) :
    Calls Try.prog 13 #[.agg #[.int .i64 c, .int .i64 l, .int .i64 k, .int .i64 p, .int .i64 s], .int .i64 x] w fun e w' => e = .returned (.tuple #[.int .i64 0, .int .i64 0, .int .i64 er]) ∧ Below w.heap.size w w' := by
  have HB := Lib.hid ((Below.refl w.heap.size w).alloc (Nat.le_refl _) (.cells #[.int .i64 c, .int .i64 l, .int .i64 k, .int .i64 p, .int .i64 s] 23))
  have HF := Lib.hid hF
  clear hF
  go_enter Try.func13, Try.ntmps13
  go_wp2_with fail
  refine (HF.out _).mono ?_
  rintro e w2 ⟨rfl, hb⟩
  replace HB := Lib.hid (below_then HB.out hb)
  clear hb
  go_wp2
  go_ret3
  exact ⟨rfl, HB.out⟩

theorem Spot_bad (h : ¬ Geom.ok c l k p s) (x : Int) (w : World) :
    Calls Try.prog 13 #[.agg #[.int .i64 c, .int .i64 l, .int .i64 k, .int .i64 p, .int .i64 s], .int .i64 x] w fun e w' => e = .returned (.tuple #[.int .i64 0, .int .i64 0, .int .i64 1]) ∧ Below w.heap.size w w' :=
  spot_of (fun w => First_bad h 0 x w) (by omega) w

theorem Spot_out (h : Geom.Sizes c l k p s U R L N) (x : Int) (hx : x < 0 ∨ U * p ≤ x) (w : World) :
    Calls Try.prog 13 #[.agg #[.int .i64 c, .int .i64 l, .int .i64 k, .int .i64 p, .int .i64 s], .int .i64 x] w fun e w' => e = .returned (.tuple #[.int .i64 0, .int .i64 0, .int .i64 2]) ∧ Below w.heap.size w w' :=
  spot_of (fun w => First_out h 0 x (fun hh => by omega) w) (by omega) w

theorem adr_of (h : Geom.Sizes c l k p s U R L N) {x u g : Int} (hx : x = g * U + u) : 0 * L + x * s = 0 * L + g * R + u * s + 0 := by
  rw [h.r, hx, Int.add_mul, Int.mul_assoc]
  omega

theorem Spot_in (h : Geom.Sizes c l k p s U R L N) (x : Int) (h0 : 0 ≤ x) (h1 : x < U * p) (w : World) :
    Calls Try.prog 13 #[.agg #[.int .i64 c, .int .i64 l, .int .i64 k, .int .i64 p, .int .i64 s], .int .i64 x] w fun e w' => e = .returned (.tuple #[.int .i64 (x % U), .int .i64 (x / U), .int .i64 0]) ∧ Below w.heap.size w w' := by
  have hsp := Stripe.split U x h.u0 h0
  have hrw := Stripe.row_bd h.u0 h0 h1
  have hp : Geom.there U k p s (x % U) 0 (x / U) 0 := ⟨hsp.2.1, hsp.2.2.1, by omega, h.may.2.2.2.2.1, hsp.2.2.2, hrw, by omega, h.may.2.2.2.2.2.2.2.2.1⟩
  have hon := Geom.of_number h hp (a := 0 * L + x * s) (adr_of h hsp.1)
  have HF := Lib.hid (fun w => First_in h 0 x (0 * L + x * s) (by omega) (by have := h.may.2.2.2.2.1; omega) h0 h1 rfl w)
  have HO := Lib.hid (fun w => rof_any h (0 * L + x * s) (x % U) 0 (x / U) 0 0 (fun u b g t ht e => by
    have h2 := Geom.of_number h ht e
    have e0 := hon.2.2.1.symm.trans h2.2.2.1
    have e1 := hon.2.2.2.1.symm.trans h2.2.2.2.1
    have e2 := hon.2.2.2.2.1.symm.trans h2.2.2.2.2.1
    have e3 := hon.2.2.2.2.2.symm.trans h2.2.2.2.2.2
    exact ⟨e0, e1, e2, e3, rfl⟩) (fun hn => by have := hon.1; have := hon.2.1; omega) w)
  generalize x % U = u at HO ⊢
  generalize x / U = g at HO ⊢
  generalize 0 * L + x * s = a at HF HO
  have HB := Lib.hid ((Below.refl w.heap.size w).alloc (Nat.le_refl _) (.cells #[.int .i64 c, .int .i64 l, .int .i64 k, .int .i64 p, .int .i64 s] 23))
  have HG := Lib.hid (geo_new w 23 c l k p s)
  clear h hsp hrw hp hon h0 h1
  go_enter Try.func13, Try.ntmps13
  go_wp2_with fail
  refine (HF.out _).mono ?_
  rintro e w2 ⟨rfl, hb⟩
  replace HB := Lib.hid (below_then HB.out hb)
  replace HG := Lib.hid (geo_keep HG.out hb)
  obtain ⟨k0, k1, k2, k3, k4⟩ := HG.out
  clear hb
  go_wp2_with fail
  refine (HO.out _).mono ?_
  rintro e w3 ⟨rfl, hb⟩
  replace HB := Lib.hid (below_then HB.out hb)
  clear hb k0 k1 k2 k3 k4
  have p0 : (w3.alloc (.cells #[.int .i64 u, .int .i64 0, .int .i64 g, .int .i64 0] 41)).cell? ⟨w3.heap.size, 0, none⟩ = some (.int .i64 u) := by simp
  have p2 : (w3.alloc (.cells #[.int .i64 u, .int .i64 0, .int .i64 g, .int .i64 0] 41)).cell? ⟨w3.heap.size, 2, none⟩ = some (.int .i64 g) := by simp
  go_wp2_with fail
  go_quiet (fail)
  go_wp2
  go_ret3
  exact ⟨rfl, below_drawn (HB.out.alloc HB.out.size _) _⟩
end
end Go.Proofs.Ytenmdgclmjfimaa.StripeRef
