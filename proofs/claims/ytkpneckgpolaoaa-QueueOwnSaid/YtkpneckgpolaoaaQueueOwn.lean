/-
  QueueOwn holds: what is done with a job that was handed in, or told, changes nothing. No condition.
-/
import Derived.Test.YtkpneckgpolaoaaQueueKit
import Derived.Test.YtkpneckgpolaoaaQueueRefD
import Derived.BigQuiet
namespace Go.Proofs.Ytkpneckgpolaoaa.queueOwn
open Go.RowKit Go.ChangeShapes Go.WideShapes Queue QueuePkg QueueLaw QueueRef
set_option maxRecDepth 4000

theorem Mine.set {a w : World} {g : Nat} {ch : Int} {q : Js} {S : Nat → Prop} (h : Mine a g ch q S w) {b : Nat} (o : Nat) (v : Value) (hb : S b) (ha : a.heap.size ≤ b) : Mine a g ch q S (w.setCell ⟨b, o, none⟩ v) := by
  obtain ⟨P, h1, h2, h3, h4, h5⟩ := h
  have ht : Turn (fun k => k = b) (fun k => k = b) w (w.setCell ⟨b, o, none⟩ v) := Turn.of_grown (grown_setCell w ⟨b, o, none⟩ v) rfl
  refine ⟨P, h1, h2.turn ht (fun k hk e => (h5 b hb).1 (by rw [← e]; exact hk)), h3, h4.setCell ha v, fun k hk => ⟨(h5 k hk).1, ?_⟩⟩
  have := (h5 k hk).2
  simpa using this

def pj (zs : List Int) : Jb := ⟨0, 0, 0, 0, zs⟩

/-- The slice v of n ints in new memory that is none of the queues'; from place j on it reads as zs. -/
structure Rest (w : World) (base : Nat) (v : Value) (zs : List Int) (j : Nat) : Prop where
  ex : ∃ ys, OwnI w base 3 v ys ∧ ys.length = zs.length ∧ ∀ k, j ≤ k → ys[k]? = zs[k]?

theorem Rest.of {w : World} {base : Nat} {v : Value} {zs : List Int} (h : OwnI w base 3 v zs) : Rest w base v zs 0 := ⟨zs, h, rfl, fun _ _ => rfl⟩

theorem Rest.keep {w w' : World} {base : Nat} {v : Value} {zs : List Int} {j : Nat} (h : Rest w base v zs j) (hk : ∀ k, v.ownBlock = some k → w'.heap[k]? = w.heap[k]?) : Rest w' base v zs j := by
  obtain ⟨ys, h1, h2, h3⟩ := h.ex
  exact ⟨ys, h1.keep hk, h2, h3⟩

theorem Rest.cell {w : World} {base b n c : Nat} {zs : List Int} {j : Nat} {x : Int} (h : Rest w base (.slice (some ⟨b, 0, none⟩) n c) zs j) (hx : zs[j]? = some x) : w.cell? ⟨b, j, none⟩ = some (.int .i64 x) ∧ w.frozen? ⟨b, j, none⟩ = false := by
  obtain ⟨ys, h1, _, h3⟩ := h.ex
  exact h1.cell (by rw [h3 j (Nat.le_refl _), hx])

theorem Rest.set {w : World} {base b n c : Nat} {zs : List Int} {j : Nat} (h : Rest w base (.slice (some ⟨b, 0, none⟩) n c) zs j) (y : Int) : Rest (w.setCell ⟨b, j, none⟩ (.int .i64 y)) base (.slice (some ⟨b, 0, none⟩) n c) zs (j + 1) := by
  obtain ⟨ys, h1, h2, h3⟩ := h.ex
  refine ⟨ys.set j y, h1.set j y, by rw [List.length_set, h2], fun k hk => ?_⟩
  rw [List.getElem?_set_ne (by omega)]
  exact h3 k (by omega)

theorem Rest.form {w : World} {base : Nat} {v : Value} {zs : List Int} {j : Nat} (h : Rest w base v zs j) : ∃ A c, v = .slice A zs.length c ∧ (0 < zs.length → ∃ b, A = some ⟨b, 0, none⟩ ∧ base ≤ b ∧ b < w.heap.size ∧ zs.length ≤ c ∧ c ≤ maxLen) := by
  obtain ⟨ys, h1, h2, _⟩ := h.ex
  obtain ⟨A, m, c, rfl⟩ := h1.form
  have hm := h1.len
  rw [← hm, h2]
  refine ⟨A, c, rfl, fun h0 => ?_⟩
  obtain ⟨b, rfl, hb, hc, hc2⟩ := h1.first (by omega)
  exact ⟨b, rfl, hb, h1.lt b rfl, by omega, hc2⟩

set_option maxHeartbeats 2000000 in
theorem walk (A : Option Addr) (n cap : Nat) (zs : List Int) (w : World) (_hnc : n ≤ cap) (_hcm : cap ≤ maxLen) (hr : Nums w w.heap.size A n zs) :
    Calls Try.prog 7 #[.slice A n cap] w fun e w' => e = .returned (.bool true) ∧ Below w.heap.size w w' := by
  have HA := Lib.hid (awake_any w)
  have HN := Lib.hid (fun X (hX : Below w.heap.size w X) => New_m (S := fun _ => False) 1 (by omega) (by omega) hX (fun b hb => hb.elim))
  have HR := Lib.hid hr
  have HZ := Lib.hid hr.1
  unfold maxLen at _hcm
  clear hr
  go_enter Try.func7, Try.ntmps7
  go_wp2_with fail
  refine HA.out.mono ?_
  rintro e w1 ⟨rfl, hb1⟩
  have HW := Lib.hid hb1
  clear hb1 HA
  go_wp2_with fail
  refine (HN.out _ HW.out).mono ?_
  rintro e w2 ⟨rfl, hm, _⟩
  obtain ⟨g, hg⟩ : ∃ g, w1.heap.size = g := ⟨_, rfl⟩
  rw [hg] at hm ⊢
  have HM := Lib.hid hm
  have hsw : w.heap.size ≤ w2.heap.size := HM.out.below.size
  clear hm HN hg HW
  by_cases hn : 500 < n
  · have hn2 : (500 : Int) < (n : Int) := by omega
    go_wp2
    go_ret
    exact ⟨rfl, HM.out.below⟩
  · have hn2 : ¬ (500 : Int) < (n : Int) := by omega
    have hlen : ([] : List Int).length + n ≤ 1000000000000 := by simp; omega
    have HR2 := Lib.hid (nums_keep (nums_keep HR.out HM.out.below) (((Below.refl w.heap.size w2).alloc hsw (.cells #[] 3))))
    go_wp2_with (at_builtin; refine wpList_append_nums _ rfl _ _ _ rfl w2.heap.size 3 Try.underlying30 info64 _ [] rfl (ownI_new0 w2 3) w.heap.size A n cap zs rfl HR2.out hlen (by simp) ?_)
    intro v w3 ho hg3
    have hb3 : Below w2.heap.size w2 w3 := ((Below.refl w2.heap.size w2).alloc (Nat.le_refl _) _).grown hg3 (by simp) (fun k hk => by simp [Value.ownBlock] at hk; omega)
    replace ho : OwnI w3 w2.heap.size 3 v zs := ho
    obtain ⟨Ag, cg, rfl, hng, hcg, hnu⟩ := ho.reads HR.out.in64
    rw [HZ.out] at ho hng hnu ⊢
    replace HM : Hid (Mine w g 1 (fun _ => []) (fun b => (Value.slice Ag n cg).ownBlock = some b) w3) := Lib.hid (HM.out.on hb3 (fun b hb => .inr ⟨ho.block b hb, ho.lt b hb⟩))
    have HG := Lib.hid (Rest.of ho)
    have HP := Lib.hid (Put_m HM.out 0 (pj zs) Ag n cg w3.heap.size (by omega) hnu (Nat.le_refl _) (by simp [jobs]))
    rw [show putQ 1 (fun _ => []) 0 (pj zs) = (fun i => if i = 0 then [pj zs] else []) by funext i; simp [putQ, upd]] at HP
    have HG0 := Lib.hid (show w.heap.size ≤ w2.heap.size from hsw)
    clear ho hg3 hb3 HR2 hnu hng hcg
    go_wp2_with fail
    refine HP.out.mono ?_
    rintro e w4 ⟨rfl, hm, hst, hsz⟩
    replace HM := Lib.hid hm
    replace HG := Lib.hid (HG.out.keep (w' := w4) (fun k hk => hst k hk))
    clear hm hst hsz HP
    go_wp2
    go_loopw [7] (fun i wr => ∃ j : Nat, i = .int .i64 (j : Int) ∧ j ≤ n ∧ Mine w g 1 (fun i => if i = 0 then [pj zs] else []) (fun b => (Value.slice Ag n cg).ownBlock = some b) wr ∧ Rest wr w2.heap.size (.slice Ag n cg) zs j) (fun i _ => n - (intOf i).toNat)
    case atStart => exact ⟨0, rfl, by omega, HM.out, HG.out⟩
    case round =>
      obtain ⟨j, rfl, hj, hm, hrest⟩ := hrel
      replace HM := Lib.hid hm
      replace HG := Lib.hid hrest
      clear hm hrest
      have hj0 : (0 : Int) ≤ (j : Int) := by omega
      by_cases hjn : j < n
      · have hjn2 : (j : Int) < (n : Int) := by omega
        obtain ⟨x, hx⟩ : ∃ x, zs[j]? = some x := ⟨_, List.getElem?_eq_getElem (by rw [HZ.out]; exact hjn)⟩
        obtain ⟨A', c', e1, hf⟩ := HG.out.form
        injection e1 with e1 e2 e3
        subst e1 e3
        obtain ⟨b, rfl, hb1, _, hc1, hc2⟩ := hf (by rw [HZ.out]; omega)
        obtain ⟨k0, f0⟩ := HG.out.cell hx
        unfold maxLen at hc2
        rw [HZ.out] at hc1
        have HWB := Lib.hid (show w.heap.size ≤ b by have := HG0.out; omega)
        clear hf hb1 hx e2
        go_wp2
        go_roundw
        case rel => exact ⟨j + 1, by go_num, by omega, Mine.set HM.out _ _ rfl HWB.out, HG.out.set _⟩
        case measure => simp [intOf]; omega
      · obtain rfl : j = n := by omega
        have HF := Lib.hid (First_m HM.out 0)
        rw [show jobs 1 (fun i => if i = 0 then [pj zs] else []) 0 = [pj zs] from rfl] at HF
        have HO := Lib.hid (fun X S (hX : Mine w g 1 (fun i => if i = 0 then [pj zs] else []) S X) => Pop_m hX 0)
        rw [show jobs 1 (fun i => if i = 0 then [pj zs] else []) 0 = [pj zs] from rfl] at HO
        clear HG HG0
        go_wp2_with fail
        refine HF.out.mono ?_
        rintro e w5 ⟨v, rfl, ho, hb⟩
        replace ho : OwnI w5 wr.heap.size 3 v zs := ho
        have HG := Lib.hid (Rest.of ho)
        have hws : w.heap.size ≤ wr.heap.size := HM.out.below.size
        have HWS := Lib.hid hws
        replace HM : Hid (Mine w g 1 (fun i => if i = 0 then [pj zs] else []) (fun b => v.ownBlock = some b) w5) := Lib.hid (HM.out.on hb (fun b hb => .inr ⟨ho.block b hb, ho.lt b hb⟩))
        obtain ⟨A1, n1, c1, rfl⟩ := ho.form
        obtain rfl : j = n1 := by rw [← HZ.out]; exact ho.len
        clear ho hb HF hws
        go_upto_region 12 with fail
        refine at_wld ?_
        intro Y hY
        have hf : Five Y w5.heap.size 32 (.int .i64 0) (.int .i64 0) (.int .i64 0) (.int .i64 0) (.slice A1 j c1) := by rw [hY]; exact Five.new w5 _ _ _ _ _ _
        have hb : Below w5.heap.size w5 Y := by rw [hY]; exact (Below.refl _ _).alloc (Nat.le_refl _) _
        have HL : Hid (∀ b, (Value.slice A1 j c1).ownBlock = some b → b < w5.heap.size) := Lib.hid (by obtain ⟨ys, h1, _⟩ := HG.out.ex; exact h1.lt)
        replace HG := Lib.hid (HG.out.keep (w' := Y) (fun k hk => hb.block k (HL.out k hk)))
        replace HM := Lib.hid (HM.out.same hb)
        have HF := Lib.hid hf
        obtain ⟨_, _, _, _, k4⟩ := hf.cells
        clear hf hb hY
        go_wp2
        clear k4
        obtain ⟨W5, hW5⟩ : ∃ x, x = w5.heap.size := ⟨_, rfl⟩
        rw [← hW5] at HF HL ⊢
        obtain ⟨W4, hW4⟩ : ∃ x, x = wr.heap.size := ⟨_, rfl⟩
        rw [← hW4] at HG HWS
        clear hW5 hW4
        go_loopw [10] (fun i wr2 => ∃ t : Nat, i = .int .i64 (t : Int) ∧ t ≤ j ∧ Mine w g 1 (fun i => if i = 0 then [pj zs] else []) (fun b => (Value.slice A1 j c1).ownBlock = some b) wr2 ∧ Rest wr2 W4 (.slice A1 j c1) zs t ∧ Five wr2 W5 32 (.int .i64 0) (.int .i64 0) (.int .i64 0) (.int .i64 0) (.slice A1 j c1)) (fun i _ => j - (intOf i).toNat)
        case atStart => exact ⟨0, rfl, by omega, HM.out, HG.out, HF.out⟩
        case round =>
          obtain ⟨t, rfl, ht, hm, hrest, hf⟩ := hrel
          replace HM := Lib.hid hm
          replace HG := Lib.hid hrest
          replace HF := Lib.hid hf
          clear hm hrest hf
          have ht0 : (0 : Int) ≤ (t : Int) := by omega
          by_cases htn : t < j
          · have htn2 : (t : Int) < (j : Int) := by omega
            obtain ⟨x, hx⟩ : ∃ x, zs[t]? = some x := ⟨_, List.getElem?_eq_getElem (by rw [HZ.out]; exact htn)⟩
            obtain ⟨A', c', e1, hf⟩ := HG.out.form
            injection e1 with e1 e2 e3
            subst e1 e3
            obtain ⟨b, rfl, hb1, _, hc1, hc2⟩ := hf (by rw [HZ.out]; omega)
            obtain ⟨k0, f0⟩ := HG.out.cell hx
            obtain ⟨_, _, _, _, k4⟩ := HF.out.cells
            unfold maxLen at hc2
            rw [HZ.out] at hc1
            obtain ⟨bp, op, x', rfl, _, hx', hcell, _⟩ := (nums_keep HR.out HM.out.below).at_ (k := t) htn
            obtain rfl : x = x' := by rw [hx] at hx'; injection hx'
            have HWB := Lib.hid (show w.heap.size ≤ b by have := HWS.out; omega)
            have HBL := Lib.hid (show W5 ≠ b by have := HL.out b rfl; omega)
            clear hf hb1 hx e2 hx'
            go_wp2
            go_quiet (fail)
            go_upto_region 19 with fail
            refine at_wld ?_
            intro V hV
            have hb : Below wr.heap.size wr V := by rw [hV]; exact below_draws (Below.refl _ _) _
            have hkk : ∀ i : Nat, V.heap[i]? = wr.heap[i]? := fun i => by rw [hV]; rfl
            replace HM := Lib.hid (HM.out.same hb)
            replace HG := Lib.hid (HG.out.keep (w' := V) (fun k _ => hkk k))
            replace HF := Lib.hid (HF.out.keep (hkk W5))
            clear hV hb hkk hcell k0 f0 k4
            obtain ⟨x, hx⟩ : ∃ x, zs[t]? = some x := ⟨_, List.getElem?_eq_getElem (by rw [HZ.out]; exact htn)⟩
            obtain ⟨k0, f0⟩ := HG.out.cell hx
            obtain ⟨_, _, _, _, k4⟩ := HF.out.cells
            clear hx
            go_region
            all_goals
              go_wp2
              go_roundw
              case rel => exact ⟨t + 1, by go_num, by omega, (Mine.set HM.out _ _ rfl HWB.out).same (Below.refl _ _).drew, (HG.out.set _).keep (fun _ _ => rfl), (HF.out.keep (Below.heap_setCell _ _ _ _ HBL.out)).keep rfl⟩
              case measure => simp [intOf]; omega
          · obtain rfl : t = j := by omega
            have HP := Lib.hid (HO.out _ _ HM.out)
            clear HO HG HF HL
            go_wp2_with fail
            refine HP.out.mono ?_
            rintro e w6 ⟨v, rfl, ho, hm, _, _⟩
            replace ho : OwnI w6 wr.heap.size 3 v zs := ho
            replace HM := Lib.hid hm
            obtain ⟨A2, c2, rfl, _, _, hnu⟩ := ho.reads HR.out.in64
            rw [HZ.out] at hnu HM ⊢
            clear ho hm HP
            go_upto_region 21 with fail
            refine at_wld ?_
            intro Z hZ
            have hf : Five Z w6.heap.size 32 (.int .i64 0) (.int .i64 0) (.int .i64 0) (.int .i64 0) (.slice A2 t c2) := by rw [hZ]; exact Five.new w6 _ _ _ _ _ _
            have hb : Below w6.heap.size w6 Z := by rw [hZ]; exact (Below.refl _ _).alloc (Nat.le_refl _) _
            replace HM := Lib.hid (HM.out.same hb)
            obtain ⟨k0, k1, k2, k3, k4⟩ := hf.cells
            have HS := Lib.hid (Same_any (pj zs) A2 A t c2 cap Z (nums_more (nums_keep hnu hb) hb.size) (nums_more (nums_keep HR.out HM.out.below) HM.out.below.size) (by omega))
            clear hf hb hZ hnu
            go_wp2_with fail
            refine HS.out.mono ?_
            rintro e w7 ⟨rfl, hb⟩
            replace HM := Lib.hid (HM.out.same hb)
            clear hb HS k0 k1 k2 k3 k4
            go_wp2
            go_ret
            exact ⟨rfl, HM.out.below⟩

theorem own : ownKnob Try.prog.godebug = none := by kernel_rfl
theorem laid : laidOutB Try.prog = true := by kernel_rfl
theorem one64 : Try.prog.cellsOf 3 = 1 := by kernel_rfl

set_option maxRecDepth 100000 in
theorem lifted (os : Os) (started : os.Started) (H : Type) (enc : TypeId × Value → H) :
    ReturnsInHanded {} Try.checked os 7 .any (Rows.queueOwnSpec.pre6 enc Try.prog Try.f7 Rows.queueOwnRow.domain false) (Rows.queueOwnSpec.post enc Try.prog Try.f7 false true false false) := by
  refine returnsInHanded_of_change (C := Try.checked) own started (by kernel_rfl) Try.func7
    (ChangeSpec.witness6 (enc := enc) (C := Try.checked) false ⟨#[], #[.slice none 0 0], []⟩ 8 (by kernel_rfl) (by kernel_rfl) (by kernel_rfl) (by kernel_rfl)) ?_
  intro W base args ds gs before hval0 hW _ _
  have hval : ∀ (j : Nat) t v, Try.f7.params[j]? = some t → args[j]? = some v → Value.okWide Try.prog W .any base t v := hval0
  have hW' := hW
  obtain ⟨p, q, hA0, hV, rfl, hfz, hnd⟩ := hW
  have hA : DataW.TrodAll enc Try.prog W 0 (fun _ => true) true Try.f7.params.toList args.toList ds p := hA0
  rw [Try.params7] at hA hval
  obtain ⟨v0, d0, rfl, rfl, h0⟩ := trodAll_one hA
  obtain ⟨A0, n0, c0, zs0, rfl, hnc0, hcm0, hr0⟩ := open_nums Try.underlying30 Try.underlying3 one64 (hval 0 30 v0 rfl rfl) h0
  refine (walk A0 n0 c0 zs0 W hnc0 hcm0 hr0).mono fun e W' ⟨he, hb⟩ => ?_
  subst he
  exact ⟨_, rfl, Law.post laid (by kernel_rfl) (by kernel_rfl) Try.underlying4 rfl hW' rfl hb⟩

theorem proved : Rows.QueueOwnSaid :=
  OpenClaim.holds_of_wide 7 Try.f7 rfl rfl rfl rfl rfl rfl rfl ⟨rfl, rfl, rfl, rfl, rfl⟩ rfl rfl rfl rfl rfl (by kernel_rfl) Try.func7 (by kernel_rfl)
    (of_decide_eq_true (by kernel_rfl)) (by unfold Func.isWrapper; first | (rw [if_pos (by decide +kernel)]; kernel_rfl) | (rw [if_neg (by decide +kernel)]; exact ⟨rfl, rfl⟩))
    (fun os started H enc _ => lifted os started H enc)

end Go.Proofs.Ytkpneckgpolaoaa.queueOwn
