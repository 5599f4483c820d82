/-
  What the document's map of layer 11 does: New.
-/
import Derived.Test.YtpheblblkkclbaaL2pRefC
namespace Go.Proofs.Ytpheblblkkclbaa.L2pRef
open Go.RowKit Go.ChangeShapes L2p L2pPkg
open Nand (Shape)
set_option maxRecDepth 4000

theorem infoEnt : rowInfo Try.prog 30 3 24 := by
  have h : (Try.prog.info? 30).map (fun i => (i.zero, i.size, i.bytes)) = some (some (.agg #[.int .i64 0, .int .i64 0, .int .i64 0]), 3, 24) := by kernel_rfl
  obtain ⟨i, hi, hzz⟩ := Option.map_eq_some_iff.1 h
  simp only [Prod.mk.injEq] at hzz
  exact ⟨i, _, hi, hzz.1, hzz.2.1, hzz.2.2, rfl⟩

theorem wpList_append_run {Pr : Program} {w w' : World} {ops : Array Oper} {rest : List Oper} {o : Oper} {a : Act} {Q : Exit → Act → World → Prop} (hgd : o.guard = none) (s x : Operand) (t : TypeId)
    (ho : o.op = .call { callee := .builtin .append, args := #[s, x], argTypes := #[t, t] }) (v1 v2 v' : Value) (hs : a.eval s = v1) (hx : a.eval x = v2) (hrun : ∀ ty, (Builtin.append_ #[t, t] ty #[v1, v2]).run Pr w = .ok v' w') (h : wpList Pr ops Q rest (a.put o.dst v') w') : wpList Pr ops Q (o :: rest) a w :=
  wpList_plain hgd fun _ hK => by
    unfold Oper.wp execOp
    simp only [ho, resolve, invoke, builtin, Sem.run_bind, Sem.run_pure, Result.andThen_ok, List.map_toArray, List.map_cons, List.map_nil, hs, hx, hrun]
    exact hK _ _ h

theorem rows_off (k : Nat) : rowsOf (fun _ => off) (k + 1) = rowsOf (fun _ => off) k ++ [entL off] := by
  unfold rowsOf
  rw [List.range_succ, List.map_append]
  rfl

/-- The head's cells. -/
def hd (G : Shape) (v : Value) : Array Value := #[.int .i64 G.c, .int .i64 G.l, .int .i64 G.k, .int .i64 G.p, .int .i64 G.s, v]

theorem hd_cell {w : World} {r : Nat} {G : Shape} {v : Value} {t : TypeId} (h : w.heap[r]? = some (.cells (hd G v) t (0, 0))) : w.cell? ⟨r, 5, none⟩ = some v ∧ w.frozen? ⟨r, 5, none⟩ = false := by
  constructor
  · simp [World.cell?, h, hd]
  · simp [World.frozen?, h]

theorem hd_set {w : World} {r : Nat} {G : Shape} {v : Value} {t : TypeId} (h : w.heap[r]? = some (.cells (hd G v) t (0, 0))) (x : Value) : (w.setCell ⟨r, 5, none⟩ x).heap[r]? = some (.cells (hd G x) t (0, 0)) := by
  simp [World.setCell, Array.getElem?_modify, h, hd]

theorem New_ok {G : Shape} (hG : G.Ok) (n : Nat) (h0 : 1 ≤ n) (h1 : n ≤ 4096) (h2 : (n : Int) ≤ G.N) (w : World) :
    Calls Try.prog 28 #[geoV G, .int .i64 (n : Int)] w fun e w' => (∃ Q : Pr, e = .returned (.tuple #[ptr Q.r 0, .int .i64 0]) ∧ Rf G n w' Q (fun _ => off) ∧ ∀ b, Q.own b → w.heap.size ≤ b) ∧ Below w.heap.size w w' := by
  have HG := Lib.hid (geo_new w 23 G.c G.l G.k G.p G.s)
  have HR := Lib.hid (rright_ok hG.may (w.alloc (.cells #[.int .i64 G.c, .int .i64 G.l, .int .i64 G.k, .int .i64 G.p, .int .i64 G.s] 23)))
  have HA := Lib.hid (fun w => rall_of hG w)
  have HB := Lib.hid ((Below.refl w.heap.size w).alloc (Nat.le_refl _) (.cells #[.int .i64 G.c, .int .i64 G.l, .int .i64 G.k, .int .i64 G.p, .int .i64 G.s] 23))
  have hm0 : (1 : Int) ≤ n := by omega
  have hm1 : (n : Int) ≤ 4096 := by omega
  have d0 : decide ((n : Int) < 1) = false := decide_eq_false (by omega)
  have d1 : decide ((4096 : Int) < n) = false := decide_eq_false (by omega)
  have d2 : decide (G.N < (n : Int)) = false := decide_eq_false (by omega)
  clear hG h2
  go_enter Try.func28, Try.ntmps28
  unfold geoV
  go_wp2_with fail
  refine HR.out.mono ?_
  rintro e w2 ⟨rfl, hb⟩
  obtain ⟨k0, k1, k2, k3, k4⟩ := geo_keep HG.out hb
  replace HB := Lib.hid (below_then HB.out hb)
  clear hb
  go_wp2_with fail
  refine (HA.out _).mono ?_
  rintro e w3 ⟨rfl, hb⟩
  obtain ⟨k0, k1, k2, k3, k4⟩ := geo_keep ⟨k0, k1, k2, k3, k4⟩ hb
  replace HB := Lib.hid (below_then HB.out hb)
  clear hb HR HG
  have HAL := Lib.hid (HB.out.alloc HB.out.size (.cells (hd G (.slice none 0 0)) 74))
  have HNEW := Lib.hid (heap_alloc_new w3 (.cells (hd G (.slice none 0 0)) 74))
  obtain ⟨r, hr⟩ : ∃ r, r = w3.heap.size := ⟨_, rfl⟩
  have HRR := Lib.hid (show w.heap.size ≤ r by rw [hr]; exact HB.out.size)
  go_wp2
  rw [← hr] at HNEW ⊢
  clear hr HB k0 k1 k2 k3 k4
  go_loopw [7] (fun i wr => ∃ (k : Nat) (v : Value), i = .int .i64 (k : Int) ∧ k ≤ n ∧ wr.heap[r]? = some (.cells (hd G v) 74 (0, 0)) ∧ OwnR wr w.heap.size 30 3 v (rowsOf (fun _ => off) k) ∧ v.ownBlock ≠ some r ∧ Below w.heap.size w wr) (fun i _ => n - (intOf i).toNat)
  case atStart => exact ⟨0, _, rfl, by omega, HNEW.out, ownR_nil _ _ _ _, by simp [Value.ownBlock], HAL.out⟩
  case round =>
    obtain ⟨k, v, rfl, hk, hh, hrow, hne, hbw⟩ := hrel
    obtain ⟨hc, hz⟩ := hd_cell hh
    have hrl := (Array.getElem?_eq_some_iff.1 hh).1
    have HH := Lib.hid hh
    have HBW := Lib.hid hbw
    have HROW := Lib.hid hrow
    have HNE := Lib.hid hne
    obtain ⟨A, c, hv, _⟩ := hrow.form
    rw [rowsOf_len] at hv
    clear hh hbw hrow hne
    by_cases hlt : k < n
    · have hlt' : (k : Int) < n := by omega
      obtain ⟨v4, w4, hrun, hrow4, hg4, hl4⟩ := run_append_row (P := Try.prog) wr w.heap.size 72 72 30 3 24 (by omega) (by omega) Try.underlying72 infoEnt v _ HROW.out (entL off) rfl (by intro u hu; simp only [entL, List.mem_cons, List.not_mem_nil, or_false] at hu; rcases hu with rfl | rfl | rfl <;> rfl) (by rw [rowsOf_len]; omega) HBW.out.size
      rw [← rows_off] at hrow4
      have hal : Below wr.heap.size wr (wr.alloc (.cells (entL off).toArray 30)) := (Below.refl _ _).alloc (Nat.le_refl _) _
      have hh4 : w4.heap[r]? = some (.cells (hd G v) 74 (0, 0)) := by
        rw [hg4.block r (by have := hal.size; omega) (fun e => HNE.out e.symm), hal.block r hrl]
        exact HH.out
      have hne4 : v4.ownBlock ≠ some r := fun e => (hl4 r e).elim HNE.out (fun h => by omega)
      have hbw4 : Below w.heap.size w w4 := (HBW.out.trans (hal.mono HBW.out.size)).grown hg4 (Nat.le_trans HBW.out.size hal.size) (fun j e => HROW.out.block j e)
      obtain ⟨hc4, hz4⟩ := hd_cell hh4
      obtain ⟨A4, c4, hv4, _⟩ := hrow4.form
      subst hv4
      have HH4 := Lib.hid hh4
      have HROW4 := Lib.hid hrow4
      have HNE4 := Lib.hid hne4
      have HBW4 := Lib.hid hbw4
      clear hh4 hrow4 hne4 hbw4 hal hg4 hl4
      subst hv
      go_wp2_with (at_builtin; refine wpList_append_run rfl _ _ _ rfl (.slice A k c) (.slice (some ⟨wr.heap.size, 0, none⟩) 1 1) _ rfl rfl (fun _ => hrun) ?_)
      go_wp2
      go_roundw
      case measure => simp [intOf]; omega
      case rel =>
        refine ⟨k + 1, _, by go_num, by omega, hd_set HH4.out _, HROW4.out.keep fun b hb => Below.heap_setCell _ _ _ _ (fun e => ?_), HNE4.out, HBW4.out.setCell HRR.out _⟩
        exact HNE4.out (by rw [hb]; exact congrArg some e)
    · obtain rfl : k = n := by omega
      subst hv
      obtain ⟨A', c', hv', h3, h4, h5⟩ := HROW.out.form
      obtain ⟨g, hg⟩ := h5 (by rw [rowsOf_len]; omega)
      injection hv' with e1 e2 e3
      subst e1
      subst hg
      have HGG := Lib.hid (HROW.out.block g rfl)
      have hne : r ≠ g := fun e => HNE.out (by rw [e]; rfl)
      have HRF : Hid (Rf G k wr ⟨r, g, c⟩ (fun _ => off)) := Lib.hid ⟨HH.out, ⟨⟨HROW.out.row.1, HROW.out.row.2.imp id (fun ⟨g, cap, cur, a1, a2, a3⟩ => ⟨g, cap, cur, a1, Nat.zero_le _, a3⟩)⟩, HROW.out.all⟩, hne, Inv.off _ _, by show 0 < k; omega, h1⟩
      clear h3 h4 h5 e2 e3
      go_wp2
      go_ret2
      exact ⟨⟨⟨r, g, c⟩, rfl, HRF.out, fun b hb => hb.elim (fun e => by rw [e]; exact HRR.out) (fun e => by rw [e]; exact HGG.out)⟩, HBW.out⟩

theorem New_geo (c l k p s : Int) (h : ¬ Geom.ok c l k p s) (n : Int) (w : World) :
    Calls Try.prog 28 #[.agg #[.int .i64 c, .int .i64 l, .int .i64 k, .int .i64 p, .int .i64 s], .int .i64 n] w fun e w' => e = .returned (.tuple #[.pointer none, .int .i64 1]) ∧ Below w.heap.size w w' := by
  have HR := Lib.hid (rright_bad h (w.alloc (.cells #[.int .i64 c, .int .i64 l, .int .i64 k, .int .i64 p, .int .i64 s] 23)))
  have HB := Lib.hid ((Below.refl w.heap.size w).alloc (Nat.le_refl _) (.cells #[.int .i64 c, .int .i64 l, .int .i64 k, .int .i64 p, .int .i64 s] 23))
  have hg := geo_new w 23 c l k p s
  obtain ⟨k0, k1, k2, k3, k4⟩ := hg
  clear h
  go_enter Try.func28, Try.ntmps28
  go_wp2_with fail
  refine HR.out.mono ?_
  rintro e w2 ⟨rfl, hb⟩
  replace HB := Lib.hid (below_then HB.out hb)
  clear hb
  go_wp2
  go_ret2
  exact ⟨rfl, HB.out⟩

theorem New_num {G : Shape} (hG : G.Ok) (n : Int) (h : ¬ (1 ≤ n ∧ n ≤ 4096 ∧ n ≤ G.N)) (w : World) :
    Calls Try.prog 28 #[geoV G, .int .i64 n] w fun e w' => e = .returned (.tuple #[.pointer none, .int .i64 1]) ∧ Below w.heap.size w w' := by
  have HG := Lib.hid (geo_new w 23 G.c G.l G.k G.p G.s)
  have HR := Lib.hid (rright_ok hG.may (w.alloc (.cells #[.int .i64 G.c, .int .i64 G.l, .int .i64 G.k, .int .i64 G.p, .int .i64 G.s] 23)))
  have HA := Lib.hid (fun w => rall_of hG w)
  have HB := Lib.hid ((Below.refl w.heap.size w).alloc (Nat.le_refl _) (.cells #[.int .i64 G.c, .int .i64 G.l, .int .i64 G.k, .int .i64 G.p, .int .i64 G.s] 23))
  clear hG
  generalize G.N = N at *
  by_cases d0 : n < 1
  · clear h
    go_enter Try.func28, Try.ntmps28
    unfold geoV
    go_wp2_with fail
    refine HR.out.mono ?_
    rintro e w2 ⟨rfl, hb⟩
    replace HB := Lib.hid (below_then HB.out hb)
    clear hb
    go_wp2
    go_ret2
    exact ⟨rfl, HB.out⟩
  · by_cases d1 : 4096 < n
    · clear h
      go_enter Try.func28, Try.ntmps28
      unfold geoV
      go_wp2_with fail
      refine HR.out.mono ?_
      rintro e w2 ⟨rfl, hb⟩
      replace HB := Lib.hid (below_then HB.out hb)
      clear hb
      go_wp2
      go_ret2
      exact ⟨rfl, HB.out⟩
    · have d2 : N < n := by omega
      clear h
      go_enter Try.func28, Try.ntmps28
      unfold geoV
      go_wp2_with fail
      refine HR.out.mono ?_
      rintro e w2 ⟨rfl, hb⟩
      obtain ⟨k0, k1, k2, k3, k4⟩ := geo_keep HG.out hb
      replace HB := Lib.hid (below_then HB.out hb)
      clear hb
      go_wp2_with fail
      refine (HA.out _).mono ?_
      rintro e w3 ⟨rfl, hb⟩
      replace HB := Lib.hid (below_then HB.out hb)
      clear hb
      go_wp2
      go_ret2
      exact ⟨rfl, HB.out⟩

end Go.Proofs.Ytpheblblkkclbaa.L2pRef
