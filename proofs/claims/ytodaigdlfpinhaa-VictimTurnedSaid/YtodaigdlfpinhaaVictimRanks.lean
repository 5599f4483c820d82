/-
  What package victim's ranks hands back: the ranks of all lines that may be collected.
-/
import Derived.Test.YtodaigdlfpinhaaVictimWalks
import Derived.Test.YtodaigdlfpinhaaVictimMem
namespace Go.Proofs.Ytodaigdlfpinhaa.VictimPkg
open Go.RowKit Victim Lib
set_option maxRecDepth 4000

theorem wpList_append_run {Pr : Program} {w w' : World} {ops : Array Oper} {rest : List Oper} {o : Oper} {a : Act} {Q : Exit → Act → World → Prop} (hgd : o.guard = none) (s x : Operand) (t : TypeId)
    (ho : o.op = .call { callee := .builtin .append, args := #[s, x], argTypes := #[t, t] }) (v1 v2 v' : Value) (hs : a.eval s = v1) (hx : a.eval x = v2) (hrun : ∀ ty, (Builtin.append_ #[t, t] ty #[v1, v2]).run Pr w = .ok v' w') (h : wpList Pr ops Q rest (a.put o.dst v') w') : wpList Pr ops Q (o :: rest) a w :=
  wpList_plain hgd fun _ hK => by
    unfold Oper.wp execOp
    simp only [ho, resolve, invoke, builtin, Sem.run_bind, Sem.run_pure, Result.andThen_ok, List.map_toArray, List.map_cons, List.map_nil, hs, hx, hrun]
    exact hK _ _ h

theorem infoRank : rowInfo Try.prog 38 3 48 := by
  have h : (Try.prog.info? 38).map (fun i => (i.zero, i.size, i.bytes)) = some (some (.agg #[.nilIface, .nilIface, .nilIface]), 3, 48) := by kernel_rfl
  obtain ⟨i, hi, hzz⟩ := Option.map_eq_some_iff.1 h
  simp only [Prod.mk.injEq] at hzz
  exact ⟨i, _, hi, hzz.1, hzz.2.1, hzz.2.2, rfl⟩

theorem rankC_one (a : K) : ∀ u ∈ rankC a, u.oneCell' = true := by
  intro u hu
  simp only [rankC, List.mem_cons, List.not_mem_nil, or_false] at hu
  rcases hu with rfl | rfl | rfl <;> rfl

def rrows (l : List K) : List (List Value) := l.map rankC
theorem rrows_len (l : List K) : (rrows l).length = l.length := by simp [rrows]
theorem rrows_more (l : List K) (a : K) : rrows (l ++ [a]) = rrows l ++ [rankC a] := by simp [rrows]

set_option maxHeartbeats 2000000 in
theorem ranks_any {w : World} {B : Nat} {A : Option Addr} {n : Nat} {f : Nat → Ln} (h : Lines w B A n f) (hB : B ≤ w.heap.size) (hn : n ≤ 1000) (c : Nat) :
    Calls Try.prog 17 #[.slice A n c] w fun e w' => ∃ v, e = .returned v ∧ OwnR w' w.heap.size 38 3 v (rrows (rks f n)) ∧ Below w.heap.size w w' := by
  have HL := Lib.hid h
  have HB := Lib.hid hB
  clear h hB
  go_enter Try.func17, Try.ntmps17
  go_wp2
  go_loopw [3, 8] (fun v i wq => ∃ t : Nat, i = .int .i64 (t : Int) ∧ t ≤ n ∧ OwnR wq w.heap.size 38 3 v (rrows (rks f t)) ∧ Below w.heap.size w wq) (fun _ i _ => n - (intOf i).toNat)
  case atStart => exact ⟨0, rfl, by omega, ownR_nil _ _ _ _, Below.refl _ _⟩
  case round =>
    obtain ⟨t, rfl, ht, hrow, hbw⟩ := hrel
    have HROW := Lib.hid hrow
    have HBW := Lib.hid hbw
    obtain ⟨A1, c1, hv, _⟩ := hrow.form
    rw [rrows_len] at hv
    subst hv
    by_cases htn : t < n
    · have htn' : (t : Int) < n := by omega
      obtain ⟨b, off, rfl, hb, hl⟩ := (HL.out.keep (hbw.mono HB.out)).form (show 0 < n by omega)
      obtain ⟨k0, k1, k2, k3, k4⟩ := hl t htn
      have HC := Lib.hid (fun w => collectable_any (f t) w)
      have HK := Lib.hid (fun w => rankOf_any (f t) (t : Int) w)
      have HS := Lib.hid (rks_succ f t)
      rw [show key (f t) t = ((f t).vd, (f t).wr, (t : Int)) from rfl] at HS
      unfold lineV at HC HK
      generalize f t = x at *
      obtain ⟨x0, x1, x2, x3, x4⟩ := x
      dsimp only at k0 k1 k2 k3 k4 HC HK HS
      have HX0 := Lib.hid (Five.new wr 33 (.int .i64 x0) (.int .i64 x1) (.int .i64 x2) (.int .i64 x3) (.int .i64 x4))
      have HBX := Lib.hid (hbw.alloc hbw.size (.cells #[.int .i64 x0, .int .i64 x1, .int .i64 x2, .int .i64 x3, .int .i64 x4] 33))
      have HRX := Lib.hid (hrow.alloc (.cells #[.int .i64 x0, .int .i64 x1, .int .i64 x2, .int .i64 x3, .int .i64 x4] 33))
      clear hrow hbw hl HROW HBW
      obtain ⟨m, hm⟩ : ∃ m, m = may ⟨x0, x1, x2, x3, x4⟩ := ⟨_, rfl⟩
      rw [← hm] at HC HS
      clear hm
      have hll := rks_len f t
      go_wp2_with fail
      refine (HC.out _).mono ?_
      rintro e w2 ⟨rfl, hb2⟩
      have HX2 := Lib.hid (HX0.out.below hb2)
      have HB2 := Lib.hid (below_then HBX.out hb2)
      have HR2 := Lib.hid (HRX.out.below hb2)
      obtain ⟨y0, y1, y2, y3, y4⟩ := HX2.out.cells
      clear hb2 HX0 HBX HRX k0 k1 k2 k3 k4 HC
      cases m with
      | false =>
        rw [if_neg (by simp), List.append_nil] at HS
        go_wp2
        go_roundw
        case measure => simp [intOf]; omega
        case rel => exact ⟨t + 1, by go_num, by omega, by rw [HS.out]; exact HR2.out, HB2.out⟩
      | true =>
        rw [if_pos rfl] at HS
        go_wp2_with fail
        refine (HK.out _).mono ?_
        rintro e w3 ⟨rfl, hb3⟩
        have HB3 := Lib.hid (below_then HB2.out hb3)
        have HR3 := Lib.hid (HR2.out.below hb3)
        obtain ⟨v4, w4, hrun, hrow4, hg4, _⟩ := run_append_row (P := Try.prog) w3 w.heap.size 35 35 38 3 48 (by omega) (by omega) Try.underlying35 infoRank _ _ HR3.out (rankC (x3, x1, (t : Int))) rfl (rankC_one _) (by rw [rrows_len]; omega) HB3.out.size
        rw [← rrows_more, ← HS.out] at hrow4
        have HR4 := Lib.hid hrow4
        have HB4 := Lib.hid ((HB3.out.alloc HB3.out.size (.cells (rankC (x3, x1, (t : Int))).toArray 38)).grown hg4 (by simp; have := HB3.out.size; omega) (fun j e => HR3.out.block j e))
        clear hb3 HB2 HR2 HX2 hrow4 hg4 y0 y1 y2 y3 y4 HK HR3
        unfold rankC at hrun
        unfold rankV rankC
        dsimp only at hrun ⊢
        generalize rks f t = l at *
        go_wp2_with (at_builtin; refine wpList_append_run rfl _ _ _ rfl (.slice A1 l.length c1) (.slice (some ⟨w3.heap.size, 0, none⟩) 1 1) _ rfl rfl (fun _ => hrun) ?_)
        go_wp2
        go_roundw
        case measure => simp [intOf]; omega
        case rel => exact ⟨t + 1, by go_num, by omega, HR4.out, HB4.out⟩
    · obtain rfl : t = n := by omega
      go_wp2
      go_ret
      exact ⟨_, rfl, HROW.out, HBW.out⟩

end Go.Proofs.Ytodaigdlfpinhaa.VictimPkg
