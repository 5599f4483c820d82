/-
  What package l2p does: newShards, New.
-/
import Derived.Test.YtpheblblkkclbaaL2pMove2
import Derived.Test.YtpheblblkkclbaaHeld
namespace Go.Proofs.Ytpheblblkkclbaa.L2pPkg
open Go.RowKit Go.ChangeShapes L2p
open Nand (Shape)
set_option maxRecDepth 4000

theorem run_make_lI (n : Nat) (hn : n ≤ 1000000) (w : World) : (Instr.makeSlice 65 (.int .i64 (n : Int)) (.int .i64 (n : Int))).run Try.prog w = .ok (.slice (some ⟨w.heap.size, 0, none⟩) n n) (w.alloc (.cells (madeCells #[.slice none 0 0] n) 54)) :=
  run_make_row' (P := Try.prog) 65 54 (.slice none 0 0) 24 Try.underlying65 (by kernel_rfl) rfl .i64 .i64 n (by omega) (by omega) w

theorem run_make_lE (n : Nat) (hn : n ≤ 1000000) (w : World) : (Instr.makeSlice 62 (.int .i64 (n : Int)) (.int .i64 (n : Int))).run Try.prog w = .ok (.slice (some ⟨w.heap.size, 0, none⟩) n n) (w.alloc (.cells (madeCells #[.slice none 0 0] n) 72)) :=
  run_make_row' (P := Try.prog) 62 72 (.slice none 0 0) 24 Try.underlying62 (by kernel_rfl) rfl .i64 .i64 n (by omega) (by omega) w

theorem shn_int (m : Nat) : ((m : Int) + 64 - 1) / 64 = (shn m : Int) := by unfold shn; omega

theorem newShardsI_any (m : Nat) (hm : m ≤ 100000) (z : Int) (w : World) :
    Calls Try.prog 46 #[.int .i64 (m : Int), .int .i64 z] w fun x w' => ∃ L, x = .returned (.agg #[.int .i64 (m : Int), .int .i64 z, .slice (some ⟨L, 0, none⟩) (shn m) (shn m)]) ∧ w'.rowIs L 54 (shn m) (fun _ => .slice none 0 0) ∧ w.heap.size ≤ L ∧ Below w.heap.size w w' := by
  obtain ⟨k, hk⟩ : ∃ k, k = shn m := ⟨_, rfl⟩
  have hsh := shn_int m
  rw [← hk] at hsh ⊢
  have hk2 : k ≤ 1000000 := by rw [hk]; unfold shn; omega
  obtain ⟨ob, hob⟩ : ∃ ob, ob = Obj.cells (madeCells #[.slice none 0 0] k) 54 := ⟨_, rfl⟩
  have hmk : ∀ w : World, (Instr.makeSlice 65 (.int .i64 (((m : Int) + 64 - 1) / 64)) (.int .i64 (((m : Int) + 64 - 1) / 64))).run Try.prog w = .ok (.slice (some ⟨w.heap.size, 0, none⟩) k k) (w.alloc ob) := fun w => by rw [hsh, hob]; exact run_make_lI k hk2 w
  have HX := Lib.hid (fun o => ((Below.refl w.heap.size w).alloc (Nat.le_refl _) o).alloc (by simp) ob)
  have HR := Lib.hid (fun w : World => show (w.alloc ob).rowIs w.heap.size 54 k (fun _ => .slice none 0 0) by rw [hob]; exact World.rowIs_made w _ k _)
  clear hk hob hsh
  go_enter Try.func46, Try.ntmps46
  go_wp2
  refine bodyPost_ret (v := .agg #[.int .i64 (m : Int), .int .i64 z, .slice (some ⟨w.heap.size + 1, 0, none⟩) k k]) ?_ rfl ⟨w.heap.size + 1, rfl, ?_, by omega, ?_⟩
  · simp [results, Try.results46, go_sem]
  · have := HR.out (w.alloc (.cells #[.int .i64 (m : Int), .int .i64 z, .slice (some ⟨w.heap.size + 1, 0, none⟩) k k] 67))
    simpa using this
  · exact HX.out _

theorem newShardsE_any (m : Nat) (hm : m ≤ 100000) (x y z : Int) (w : World) :
    Calls Try.prog 45 #[.int .i64 (m : Int), .agg #[.int .i64 x, .int .i64 y, .int .i64 z]] w fun e w' => ∃ L, e = .returned (.agg #[.int .i64 (m : Int), .int .i64 x, .int .i64 y, .int .i64 z, .slice (some ⟨L, 0, none⟩) (shn m) (shn m)]) ∧ w'.rowIs L 72 (shn m) (fun _ => .slice none 0 0) ∧ w.heap.size ≤ L ∧ Below w.heap.size w w' := by
  obtain ⟨k, hk⟩ : ∃ k, k = shn m := ⟨_, rfl⟩
  have hsh := shn_int m
  rw [← hk] at hsh ⊢
  have hk2 : k ≤ 1000000 := by rw [hk]; unfold shn; omega
  obtain ⟨ob, hob⟩ : ∃ ob, ob = Obj.cells (madeCells #[.slice none 0 0] k) 72 := ⟨_, rfl⟩
  have hmk : ∀ w : World, (Instr.makeSlice 62 (.int .i64 (k : Int)) (.int .i64 (k : Int))).run Try.prog w = .ok (.slice (some ⟨w.heap.size, 0, none⟩) k k) (w.alloc ob) := fun w => by rw [hob]; exact run_make_lE k hk2 w
  have hwr : IntKind.i64.wrap ((m : Int) + 64) = (m : Int) + 64 := kwrap_is (by omega) (by omega)
  have hwr2 : IntKind.i64.wrap ((m : Int) + 64 - 1) = (m : Int) + 64 - 1 := kwrap_is (by omega) (by omega)
  have hwr3 : IntKind.i64.wrap (((m : Int) + 64 - 1).tdiv 64) = ((m : Int) + 64 - 1) / 64 := by
    rw [Int.tdiv_eq_ediv_of_nonneg (by omega)]
    exact kwrap_is (by omega) (by omega)
  have HX := Lib.hid (fun o o' => (((Below.refl w.heap.size w).alloc (Nat.le_refl _) o).alloc (by simp) o').alloc (by simp; omega) ob)
  have HR := Lib.hid (fun w : World => show (w.alloc ob).rowIs w.heap.size 72 k (fun _ => .slice none 0 0) by rw [hob]; exact World.rowIs_made w _ k _)
  clear hk hob
  go_enter Try.func45, Try.ntmps45
  go_wp2_with fail
  go_region
  go_wp2
  refine bodyPost_ret (v := .agg #[.int .i64 (m : Int), .int .i64 x, .int .i64 y, .int .i64 z, .slice (some ⟨w.heap.size + 1 + 1, 0, none⟩) k k]) ?_ rfl ⟨w.heap.size + 1 + 1, rfl, ?_, by omega, ?_⟩
  · simp [results, Try.results45, go_sem]
  · have := HR.out ((w.alloc (.cells #[.int .i64 x, .int .i64 y, .int .i64 z] 30)).alloc (.cells #[.int .i64 (m : Int), .int .i64 x, .int .i64 y, .int .i64 z, .slice (some ⟨w.heap.size + 1 + 1, 0, none⟩) k k] 64))
    simp only [World.size_alloc] at this
    exact this
  · exact (HX.out _ _).drew

/-- Shards none of which is made yet. -/
theorem Sh.fresh {w : World} {L n sz : Nat} {fi : List Value} {e : TypeId} (h : w.rowIs L e n (fun _ => .slice none 0 0)) (hn : 0 < n) (hs : 0 < sz) (hl : fi.length = sz) {f : Nat → List Value} (hf : ∀ i, f i = fi) : Sh w L n (fun _ => none) sz fi f :=
  ⟨fun s hs => ⟨h.cell hs, h.frozen s⟩, fun i _ _ => hf i, fun _ _ _ h => (by cases h), fun _ _ _ _ _ h => (by cases h), fun _ _ h => (by cases h), fun i _ => (by rw [hf]; exact hl), hn, hs⟩

def geoV (G : Shape) : Value := .agg #[.int .i64 G.c, .int .i64 G.l, .int .i64 G.k, .int .i64 G.p, .int .i64 G.s]

theorem shOwn_none {L n b : Nat} (h : shOwn L n (fun _ => none) b) : b = L := by
  rcases h with h | ⟨_, _, h⟩
  · exact h
  · cases h

theorem map_new {G : Shape} {n : Nat} {X : World} {LE LI : Nat} (hN : 1 ≤ G.N) (h0 : 0 < n) (h1 : n ≤ 4096) (hE : X.rowIs LE 72 (shn n) (fun _ => .slice none 0 0)) (hI : X.rowIs LI 54 (shn G.N.toNat) (fun _ => .slice none 0 0)) (hne : LE ≠ LI) :
    Mp G n (X.alloc (.cells (headCells G n LE LI) 69)) ⟨X.heap.size, LE, fun _ => none, LI, fun _ => none⟩ (fun _ => off) := by
  have lE := hE.lt
  have lI := hI.lt
  have hb := (Below.refl X.heap.size X).alloc (Nat.le_refl _) (.cells (headCells G n LE LI) 69)
  refine ⟨⟨heap_alloc_new X _, (Sh.fresh (sz := 3) (fi := entL off) (f := entF n fun _ => off) hE (by unfold shn; omega) (by omega) rfl (fun i => ?_)).below hb, (Sh.fresh (sz := 1) (fi := [.int .i64 (-1)]) (f := ownF n fun _ => off) hI (by unfold shn; omega) (by omega) rfl (fun i => ?_)).below hb, fun b h h2 => ?_, fun h => ?_, fun h => ?_⟩, Inv.off _ _, h0, h1⟩
  · unfold entF
    split <;> rfl
  · unfold ownF
    rw [who_none]
    intro j _
    show (-1 : Int) ≠ _
    omega
  · exact hne ((shOwn_none h).symm.trans (shOwn_none h2))
  · have := shOwn_none h
    have this : X.heap.size = LE := this
    omega
  · have := shOwn_none h
    have this : X.heap.size = LI := this
    omega

def newOk (G : Shape) (n : Int) : Prop := G.Ok ∧ 1 ≤ n ∧ n ≤ 4096 ∧ n ≤ G.N

theorem New_ok {G : Shape} (hG : G.Ok) (n : Nat) (h0 : 1 ≤ n) (h1 : n ≤ 4096) (h2 : (n : Int) ≤ G.N) (w : World) :
    Calls Try.prog 18 #[geoV G, .int .i64 (n : Int)] w fun e w' => (∃ P : Pl, e = .returned (.tuple #[ptr P.g 0, .int .i64 0]) ∧ Mp G n w' P (fun _ => off) ∧ ∀ b, P.own n G.N.toNat b → w.heap.size ≤ b) ∧ Below w.heap.size w w' := by
  have HG := Lib.hid (geo_new w 23 G.c G.l G.k G.p G.s)
  have HR := Lib.hid (right_ok hG.may (w.alloc (.cells #[.int .i64 G.c, .int .i64 G.l, .int .i64 G.k, .int .i64 G.p, .int .i64 G.s] 23)))
  have HA := Lib.hid (fun w => All_ok hG w)
  have HB := Lib.hid ((Below.refl w.heap.size w).alloc (Nat.le_refl _) (.cells #[.int .i64 G.c, .int .i64 G.l, .int .i64 G.k, .int .i64 G.p, .int .i64 G.s] 23))
  have HSE := Lib.hid (fun w => newShardsE_any n (by omega) (-1) 0 0 w)
  have hn0 := hG.n0
  have hn1 := hG.n1
  obtain ⟨N, hN⟩ : ∃ N : Nat, G.N = N := ⟨G.N.toNat, by omega⟩
  have HSI := Lib.hid (fun w => newShardsI_any N (by omega) (-1) w)
  have HN := Lib.hid hN
  have HN1 := Lib.hid hn0
  rw [hN] at HA h2
  clear hG hn0 hn1 hN
  have hm0 : (1 : Int) ≤ n := by omega
  have hm1 : (n : Int) ≤ 4096 := by omega
  have d0 : decide ((n : Int) < 1) = false := decide_eq_false (by omega)
  have d1 : decide ((4096 : Int) < n) = false := decide_eq_false (by omega)
  have d2 : decide ((N : Int) < n) = false := decide_eq_false (by omega)
  go_enter Try.func18, Try.ntmps18
  unfold geoV
  go_wp2_with fail
  refine HR.out.mono ?_
  rintro e w2 ⟨rfl, hb⟩
  obtain ⟨k0, k1, k2, k3, k4⟩ := geo_keep HG.out hb
  replace HB := Lib.hid (below_then HB.out hb)
  clear hb
  go_wp2_with fail
  refine (HA.out _).mono ?_
  rintro e w3 ⟨rfl, hb⟩
  have HK := Lib.hid (geo_keep ⟨k0, k1, k2, k3, k4⟩ hb)
  replace HB := Lib.hid (below_then HB.out hb)
  clear hb k0 k1 k2 k3 k4 HR HG
  obtain ⟨k0, k1, k2, k3, k4⟩ := HK.out
  have HLT := Lib.hid (World.block_lt_of_cell? _ _ k0)
  go_wp2_with fail
  have HBX : Hid (Below w.heap.size w w3.drew) := Lib.hid HB.out.drew
  go_region_held3 (fun w' => w'.cell? ⟨w.heap.size, 0, none⟩ = some (.int .i64 G.c) ∧ w'.cell? ⟨w.heap.size, 1, none⟩ = some (.int .i64 G.l) ∧ w'.cell? ⟨w.heap.size, 2, none⟩ = some (.int .i64 G.k) ∧ w'.cell? ⟨w.heap.size, 3, none⟩ = some (.int .i64 G.p) ∧ w'.cell? ⟨w.heap.size, 4, none⟩ = some (.int .i64 G.s))
    (first | exact HK.out | exact geo_keep (by assumption) hb | exact geo_keep (by assumption) ((Below.refl _ _).alloc (Nat.le_refl _) _) | go_keep)
    (first
      | (go_at_call 45; refine (HSE.out _).mono ?_; rintro e X1 ⟨LE, rfl, hE, hE0, hb⟩; replace HBX := Lib.hid (below_then HBX.out hb); have hb1 := hb)
      | (go_at_call 27; refine (HA.out _).mono ?_; rintro e X2 ⟨rfl, hb⟩; replace HBX := Lib.hid (below_then HBX.out hb); have hb2 := hb)
      | (go_at_call 46; refine (HSI.out _).mono ?_; rintro e X3 ⟨LI, rfl, hI, hI0, hb⟩; replace HBX := Lib.hid (below_then HBX.out hb)))
  rename_i hHeld
  clear hHeld HK HB k0 k1 k2 k3 k4
  have lE := hE.lt
  have s2 := hb2.size
  have s3 := hb.size
  have HNE := Lib.hid (show LE ≠ LI by omega)
  have HE := Lib.hid ((hE.of_block (hb2.block _ lE)).of_block (hb.block _ (by omega)))
  have HI := Lib.hid hI
  have HUP := Lib.hid (show w.heap.size < w3.drew.heap.size ∧ w.heap.size ≤ LE ∧ w.heap.size ≤ LI from by
    have : w.heap.size < w3.heap.size := HLT.out
    have h3 : w3.heap.size ≤ LE := hE0
    have h4 := hb1.size
    have h5 : w3.heap.size ≤ X1.heap.size := h4
    exact ⟨this, by omega, by omega⟩)
  clear hE hE0 hI hI0 hb hb1 hb2 lE s2 s3
  go_wp2
  go_ret2
  refine ⟨⟨⟨X3.heap.size, LE, fun _ => none, LI, fun _ => none⟩, rfl, ?_, ?_⟩, HBX.out.alloc HBX.out.size _⟩
  · have hNN : G.N.toNat = N := by rw [HN.out]; rfl
    have hm := map_new (G := G) (n := n) HN1.out h0 h1 HE.out (by rw [hNN]; exact HI.out) HNE.out
    unfold headCells at hm
    rw [hNN, HN.out] at hm
    exact hm
  · rintro b (h | h | h)
    · have h : b = X3.heap.size := h
      have := HBX.out.size
      omega
    · have := shOwn_none h
      have this : b = LE := this
      have := HUP.out
      omega
    · have := shOwn_none h
      have this : b = LI := this
      have := HUP.out
      omega

theorem New_geo (c l k p s : Int) (h : ¬ Geom.ok c l k p s) (n : Int) (w : World) :
    Calls Try.prog 18 #[.agg #[.int .i64 c, .int .i64 l, .int .i64 k, .int .i64 p, .int .i64 s], .int .i64 n] w fun e w' => e = .returned (.tuple #[.pointer none, .int .i64 1]) ∧ Below w.heap.size w w' := by
  have HR := Lib.hid (right_bad h (w.alloc (.cells #[.int .i64 c, .int .i64 l, .int .i64 k, .int .i64 p, .int .i64 s] 23)))
  have HB := Lib.hid ((Below.refl w.heap.size w).alloc (Nat.le_refl _) (.cells #[.int .i64 c, .int .i64 l, .int .i64 k, .int .i64 p, .int .i64 s] 23))
  have hg := geo_new w 23 c l k p s
  obtain ⟨k0, k1, k2, k3, k4⟩ := hg
  clear h
  go_enter Try.func18, Try.ntmps18
  go_wp2_with fail
  refine HR.out.mono ?_
  rintro e w2 ⟨rfl, hb⟩
  replace HB := Lib.hid (below_then HB.out hb)
  clear hb
  go_wp2
  go_ret2
  exact ⟨rfl, HB.out⟩

theorem New_num {G : Shape} (hG : G.Ok) (n : Int) (h : ¬ (1 ≤ n ∧ n ≤ 4096 ∧ n ≤ G.N)) (w : World) :
    Calls Try.prog 18 #[geoV G, .int .i64 n] w fun e w' => e = .returned (.tuple #[.pointer none, .int .i64 1]) ∧ Below w.heap.size w w' := by
  have HG := Lib.hid (geo_new w 23 G.c G.l G.k G.p G.s)
  have HR := Lib.hid (right_ok hG.may (w.alloc (.cells #[.int .i64 G.c, .int .i64 G.l, .int .i64 G.k, .int .i64 G.p, .int .i64 G.s] 23)))
  have HA := Lib.hid (fun w => All_ok hG w)
  have HB := Lib.hid ((Below.refl w.heap.size w).alloc (Nat.le_refl _) (.cells #[.int .i64 G.c, .int .i64 G.l, .int .i64 G.k, .int .i64 G.p, .int .i64 G.s] 23))
  clear hG
  generalize G.N = N at *
  by_cases d0 : n < 1
  · clear h
    go_enter Try.func18, Try.ntmps18
    unfold geoV
    go_wp2_with fail
    refine HR.out.mono ?_
    rintro e w2 ⟨rfl, hb⟩
    replace HB := Lib.hid (below_then HB.out hb)
    clear hb
    go_wp2
    go_ret2
    exact ⟨rfl, HB.out⟩
  · by_cases d1 : 4096 < n
    · clear h
      go_enter Try.func18, Try.ntmps18
      unfold geoV
      go_wp2_with fail
      refine HR.out.mono ?_
      rintro e w2 ⟨rfl, hb⟩
      replace HB := Lib.hid (below_then HB.out hb)
      clear hb
      go_wp2
      go_ret2
      exact ⟨rfl, HB.out⟩
    · have d2 : N < n := by omega
      clear h
      go_enter Try.func18, Try.ntmps18
      unfold geoV
      go_wp2_with fail
      refine HR.out.mono ?_
      rintro e w2 ⟨rfl, hb⟩
      obtain ⟨k0, k1, k2, k3, k4⟩ := geo_keep HG.out hb
      replace HB := Lib.hid (below_then HB.out hb)
      clear hb
      go_wp2_with fail
      refine (HA.out _).mono ?_
      rintro e w3 ⟨rfl, hb⟩
      replace HB := Lib.hid (below_then HB.out hb)
      clear hb
      go_wp2
      go_ret2
      exact ⟨rfl, HB.out⟩

end Go.Proofs.Ytpheblblkkclbaa.L2pPkg
