/-
  What the document's answer for layer 8 does: New; Read, for every address.
-/
import Derived.Test.YtlmdlhfdacmcnaaNandRefR
import Derived.Test.YtlmdlhfdacmcnaaHeld
namespace Go.Proofs.Ytlmdlhfdacmcnaa.NandRef
open Go.RowKit Nand NandPkg
set_option maxRecDepth 4000

theorem Read_any {G : Shape} {w : World} {P : Pl} {st : St} (hG : G.Ok) (h : Ref G w P st) (a : Int) (hJ : P.J ≤ 100000) :
    Calls Try.prog 47 #[ptr P.g, .int .i64 a] w fun e w' => ∃ v v', e = .returned (.tuple #[v, v', .int .i64 (st.reads G a).2.2]) ∧ Own w' w.heap.size 5 v (st.reads G a).1 ∧ Own w' w.heap.size 5 v' (st.reads G a).2.1 ∧ Below w.heap.size w w' := by
  unfold St.reads
  by_cases hoff : st.off = true
  · rw [if_pos hoff]
    refine (read_off h hoff a).mono ?_
    rintro e w2 ⟨rfl, rfl⟩
    exact ⟨_, _, rfl, own_none _ _ _, own_none _ _ _, Below.refl _ _⟩
  · rw [if_neg hoff]
    replace hoff : st.off = false := by simpa using hoff
    by_cases ha : 0 ≤ a ∧ a < G.N
    · rw [if_neg (fun h => h ha)]
      obtain ⟨hp, he⟩ := Geom.number_of hG ha.1 ha.2
      obtain ⟨evs, hlog, htell, hlen⟩ := h.log
      have hrd := htell _ _ _ _ hp
      have hea : adr G (a % G.R / G.s) (a / G.L) (a % G.L / G.R) (a % G.s) = a := he
      have hr := read_in hG h hoff _ _ _ _ hp hJ evs hlog hlen
      rw [hea] at hr hrd
      refine hr.mono ?_
      rintro e w2 ⟨⟨v, v', er, rfl, hor⟩, hb⟩
      rcases hor with ⟨ht, rfl, h1, h2⟩ | ⟨x, y, ht, rfl, h1, h2⟩
      · rw [hrd, ht]
        exact ⟨v, v', rfl, h1, h2, hb⟩
      · rw [hrd, ht]
        exact ⟨v, v', rfl, h1, h2, hb⟩
    · rw [if_pos ha]
      refine (read_range hG h hoff a (by omega)).mono ?_
      rintro e w2 ⟨rfl, hb⟩
      exact ⟨_, _, rfl, own_none _ _ _, own_none _ _ _, hb⟩

theorem info64 : intInfo Try.prog 3 := info_parts (by kernel_rfl)

theorem run_make_i (n : Nat) (hn : n ≤ 1000000) (w : World) : (Instr.makeSlice 24 (.int .i64 (n : Int)) (.int .i64 (n : Int))).run Try.prog w = .ok (.slice (some ⟨w.heap.size, 0, none⟩) n n) (w.alloc (.cells (madeCells #[.int .i64 0] n) 3)) :=
  run_make_row' (P := Try.prog) 24 3 (.int .i64 0) 8 Try.underlying24 (by kernel_rfl) rfl .i64 .i64 n (by omega) (by omega) w
theorem run_make_b (n : Nat) (hn : n ≤ 1000000) (w : World) : (Instr.makeSlice 52 (.int .i64 (n : Int)) (.int .i64 (n : Int))).run Try.prog w = .ok (.slice (some ⟨w.heap.size, 0, none⟩) n n) (w.alloc (.cells (madeCells #[.bool false] n) 4)) :=
  run_make_row' (P := Try.prog) 52 4 (.bool false) 1 Try.underlying52 (by kernel_rfl) rfl .i64 .i64 n (by omega) (by omega) w

/-- The kinds of a new one. -/
def kind0 (g gn gw gr lo gp : Nat) (b : Nat) : Nat := if b = g then 1 else if b = gn then 2 else if b = gw then 3 else if b = gr then 4 else if lo ≤ b ∧ b ≤ gp then 5 else 0

theorem ref_new {G : Shape} {X : World} {gn gw gr lo gp : Nat} (h1 : X.rowIs gn 3 (cnt G) (fun _ => .int .i64 0)) (h2 : X.rowIs gw 3 (cnt G) (fun _ => .int .i64 0)) (h3 : X.rowIs gr 4 (cnt G) (fun _ => .bool false)) (hp : PlanPkg.RefAt X lo gp [] 0) (hlo : lo ≤ gp)
    (d1 : gn ≠ gw) (d2 : gn ≠ gr) (d3 : gw ≠ gr) (d4 : gn < lo ∨ gp < gn) (d5 : gw < lo ∨ gp < gw) (d6 : gr < lo ∨ gp < gr) :
    Ref G (X.alloc (.cells (headCells G ⟨X.heap.size, gn, gw, gr, lo, gp, .slice none 0 0, 0, kind0 X.heap.size gn gw gr lo gp⟩ false 0) 54)) ⟨X.heap.size, gn, gw, gr, lo, gp, .slice none 0 0, 0, kind0 X.heap.size gn gw gr lo gp⟩ (fresh (fun _ => false)) := by
  have l1 := h1.lt
  have l2 := h2.lt
  have l3 := h3.lt
  have l4 := hp.lt
  have hb := (Below.refl X.heap.size X).alloc (Nat.le_refl _) (.cells (headCells G ⟨X.heap.size, gn, gw, gr, lo, gp, .slice none 0 0, 0, kind0 X.heap.size gn gw gr lo gp⟩ false 0) 54)
  refine ⟨heap_alloc_new X _, h1.alloc _, h2.alloc _, h3.alloc _, ⟨[], hp.below hb hlo, Int.le_refl _, rfl⟩, ⟨[], log_nil _ _, fun _ _ _ _ _ => rfl, Nat.le_refl _⟩, ⟨?_, ?_, ?_, ?_, ?_, fun b h => by simp [Value.ownBlock] at h, hlo⟩, fun b h => ?_⟩
  · show kind0 X.heap.size gn gw gr lo gp X.heap.size = 1
    simp [kind0]
  · show kind0 X.heap.size gn gw gr lo gp gn = 2
    unfold kind0
    rw [if_neg (by omega), if_pos rfl]
  · show kind0 X.heap.size gn gw gr lo gp gw = 3
    unfold kind0
    rw [if_neg (by omega), if_neg (by omega), if_pos rfl]
  · show kind0 X.heap.size gn gw gr lo gp gr = 4
    unfold kind0
    rw [if_neg (by omega), if_neg (by omega), if_neg (by omega), if_pos rfl]
  · intro b hb1 hb2
    show kind0 X.heap.size gn gw gr lo gp b = 5
    replace hb1 : lo ≤ b := hb1
    replace hb2 : b ≤ gp := hb2
    unfold kind0
    rw [if_neg (by omega), if_neg (by omega), if_neg (by omega), if_neg (by omega), if_pos ⟨hb1, hb2⟩]
  · have h : kind0 X.heap.size gn gw gr lo gp b ≠ 0 := h
    have hs : (X.alloc (.cells (headCells G ⟨X.heap.size, gn, gw, gr, lo, gp, .slice none 0 0, 0, kind0 X.heap.size gn gw gr lo gp⟩ false 0) 54)).heap.size = X.heap.size + 1 := by simp
    rw [hs]
    unfold kind0 at h
    by_cases e1 : b = X.heap.size
    · omega
    · rw [if_neg e1] at h
      by_cases e2 : b = gn
      · omega
      · rw [if_neg e2] at h
        by_cases e3 : b = gw
        · omega
        · rw [if_neg e3] at h
          by_cases e4 : b = gr
          · omega
          · rw [if_neg e4] at h
            by_cases e5 : lo ≤ b ∧ b ≤ gp
            · omega
            · rw [if_neg e5] at h
              exact absurd rfl h

theorem kind0_up {g gn gw gr lo gp B b : Nat} (h1 : B ≤ g) (h2 : B ≤ gn) (h3 : B ≤ gw) (h4 : B ≤ gr) (h5 : B ≤ lo) (h : kind0 g gn gw gr lo gp b ≠ 0) : B ≤ b := by
  unfold kind0 at h
  by_cases e1 : b = g
  · omega
  · rw [if_neg e1] at h
    by_cases e2 : b = gn
    · omega
    · rw [if_neg e2] at h
      by_cases e3 : b = gw
      · omega
      · rw [if_neg e3] at h
        by_cases e4 : b = gr
        · omega
        · rw [if_neg e4] at h
          by_cases e5 : lo ≤ b ∧ b ≤ gp
          · omega
          · rw [if_neg e5] at h
            exact absurd rfl h

section
variable {G : Shape} {w : World}

theorem new_bad (c l k p s : Int) (h : ¬ Geom.ok c l k p s) (V : Value) :
    Calls Try.prog 13 #[.agg #[.int .i64 c, .int .i64 l, .int .i64 k, .int .i64 p, .int .i64 s], V] w fun e w' => e = .returned (.tuple #[.pointer none, .int .i64 1]) ∧ Below w.heap.size w w' := by
  have hb0 := (Below.refl w.heap.size w).alloc (Nat.le_refl _) (.cells #[.int .i64 c, .int .i64 l, .int .i64 k, .int .i64 p, .int .i64 s] 23)
  obtain ⟨h0, h1, h2, h3, h4⟩ := geo_new w 23 c l k p s
  have HU := Lib.hid (fun w => runits_bad h w)
  have HR := Lib.hid (fun w => rright_bad h w)
  have HB := Lib.hid hb0.drew
  clear h hb0
  go_enter Try.func13, Try.ntmps13
  go_wp2_with fail
  go_region_held3 (fun w' => w'.cell? ⟨w.heap.size, 0, none⟩ = some (.int .i64 c) ∧ w'.cell? ⟨w.heap.size, 1, none⟩ = some (.int .i64 l) ∧ w'.cell? ⟨w.heap.size, 2, none⟩ = some (.int .i64 k) ∧ w'.cell? ⟨w.heap.size, 3, none⟩ = some (.int .i64 p) ∧ w'.cell? ⟨w.heap.size, 4, none⟩ = some (.int .i64 s))
    (first | exact ⟨h0, h1, h2, h3, h4⟩ | exact geo_keep (by assumption) hb | go_keep)
    (first
      | (go_at_call 41; refine (HU.out _).mono ?_; rintro e w3 ⟨rfl, hb⟩; replace HB := Lib.hid (below_then HB.out hb)))
  rename_i hHeld
  obtain ⟨k0, k1, k2, k3, k4⟩ := hHeld
  clear hb h0 h1 h2 h3 h4
  go_wp2_with fail
  refine (HR.out _).mono ?_
  rintro e w4 ⟨rfl, hb⟩
  replace HB := Lib.hid (below_then HB.out hb)
  clear hb
  go_wp2
  go_ret2
  exact ⟨rfl, HB.out⟩

set_option maxHeartbeats 3200000 in
theorem New_any (hG : G.Ok) (A : Option Addr) (n c B : Nat) (zs : List Int) (hn : n ≤ 1000000) (hz : Nums w B A n zs) (hB : B ≤ w.heap.size) :
    Calls Try.prog 13 #[geoV G, .slice A n c] w fun e w' => (((∀ z ∈ zs, 0 ≤ z ∧ z < G.U * G.k) ∧ ∃ P, e = .returned (.tuple #[ptr P.g, .int .i64 0]) ∧ Ref G w' P (fresh (rtOf zs zs.length)) ∧ (∀ b, P.own b → w.heap.size ≤ b) ∧ P.J = 0) ∨ (¬ (∀ z ∈ zs, 0 ≤ z ∧ z < G.U * G.k) ∧ e = .returned (.tuple #[.pointer none, .int .i64 1]))) ∧ Below w.heap.size w w' := by
  obtain ⟨h0, h1, h2, h3, h4⟩ := geo_new w 23 G.c G.l G.k G.p G.s
  have HR := Lib.hid (fun w => rright_ok hG.may w)
  have HU := Lib.hid (fun w => runits_ok hG w)
  have HB := Lib.hid ((Below.refl w.heap.size w).alloc (Nat.le_refl _) (.cells #[.int .i64 G.c, .int .i64 G.l, .int .i64 G.k, .int .i64 G.p, .int .i64 G.s] 23)).drew
  have hk1 : 1 ≤ G.k := hG.may.2.2.2.2.1
  have hk2 : G.k ≤ 64 := hG.may.2.2.2.2.2.1
  have huk := Geom.mul_bd hG.u0 hG.u1 hk1 hk2
  have hcn : ((cnt G : Nat) : Int) = G.U * G.k := by unfold cnt; omega
  have hw1 : IntKind.i64.wrap (G.U * G.k) = (cnt G : Int) := by rw [hcn]; exact kwrap_is (by omega) (by omega)
  have HZ := Lib.hid hz
  rw [← hcn] at huk ⊢
  obtain ⟨N, hN⟩ : ∃ N, N = cnt G := ⟨_, rfl⟩
  rw [← hN] at huk hw1 ⊢
  have HN := Lib.hid hN
  clear hN hz hG hk1 hk2 hcn
  have HMI := Lib.hid (run_make_i N (by omega))
  have HMB := Lib.hid (run_make_b N (by omega))
  have HPN := Lib.hid (fun w => PlanPkg.refNew_any none 0 0 0 [] w (by omega) ⟨rfl, fun i hi => absurd hi (by simp)⟩ (Nat.zero_le _))
  go_enter Try.func13, Try.ntmps13
  go_wp2_with fail
  go_region_held3 (fun w' => w'.cell? ⟨w.heap.size, 0, none⟩ = some (.int .i64 G.c) ∧ w'.cell? ⟨w.heap.size, 1, none⟩ = some (.int .i64 G.l) ∧ w'.cell? ⟨w.heap.size, 2, none⟩ = some (.int .i64 G.k) ∧ w'.cell? ⟨w.heap.size, 3, none⟩ = some (.int .i64 G.p) ∧ w'.cell? ⟨w.heap.size, 4, none⟩ = some (.int .i64 G.s))
    (first | exact ⟨h0, h1, h2, h3, h4⟩ | exact geo_keep (by assumption) hb | go_keep)
    (first
      | (go_at_call 41; refine (HU.out _).mono ?_; rintro e w3 ⟨rfl, hb⟩; replace HB := Lib.hid (below_then HB.out hb)))
  rename_i hHeld
  have hg3 : Geo w3 w.heap.size G.c G.l G.k G.p G.s := hHeld
  obtain ⟨k0, k1, k2, k3, k4⟩ := hHeld
  clear hb h0 h1 h2 h3 h4
  go_wp2_with fail
  refine (HR.out _).mono ?_
  rintro e X ⟨rfl, hb⟩
  replace HB := Lib.hid (below_then HB.out hb)
  have HGE := Lib.hid (geo_keep hg3 hb)
  clear hb k0 k1 k2 k3 k4 hg3 HR HU hw1
  obtain ⟨k0, k1, k2, k3, k4⟩ := HGE.out
  obtain ⟨W, hW⟩ : ∃ W, W = X := ⟨_, rfl⟩
  have hWX : Below W.heap.size W X.drew := by rw [hW]; exact (Below.refl _ _).drew
  have hWs : Below w.heap.size w W := by rw [hW]; exact HB.out
  have HWs := Lib.hid hWs
  have HGW : Hid (Geo W w.heap.size G.c G.l G.k G.p G.s) := by rw [hW]; exact HGE
  clear hW hWs HB
  go_upto_region 4 with fail
  go_cut [7] (fun s wx => ∃ P : Pl, s = ptr P.g ∧ Ref G wx P (fresh (fun _ => false)) ∧ (∀ b, P.own b → W.heap.size ≤ b) ∧ Below W.heap.size W wx ∧ P.J = 0)
  case first =>
    refine wp_region_held_drew (S := (fun w' => w'.cell? ⟨w.heap.size, 0, none⟩ = some (.int .i64 G.c) ∧ w'.cell? ⟨w.heap.size, 1, none⟩ = some (.int .i64 G.l) ∧ w'.cell? ⟨w.heap.size, 2, none⟩ = some (.int .i64 G.k) ∧ w'.cell? ⟨w.heap.size, 3, none⟩ = some (.int .i64 G.p) ∧ w'.cell? ⟨w.heap.size, 4, none⟩ = some (.int .i64 G.s))) (by kernel_rfl) ?_ (fun hHeld => ?_)
    · exact HGE.out
    have HBX : Hid (Below W.heap.size W X.drew) := Lib.hid hWX
    have HGX : Hid (Geo X.drew w.heap.size G.c G.l G.k G.p G.s) := HGE
    have HNN := HN
    clear hWX k0 k1 k2 k3 k4 HGE
    generalize X.drew = X0 at *
    refine Hand.held_take (i := 0) (d := 17) (v := ?_) rfl rfl (by kernel_rfl) (by kernel_rfl) (by kernel_rfl) (by rfl) ?_ (by assumption) (fun _ _ _ h => h) ?_
    rotate_left
    · intro w hSw
      go_simp
      with_reducible rfl
    try simp only [Act.put, List.setIfInBounds_toArray, List.set_cons_zero, List.set_cons_succ]
    refine Hand.held_take (i := 2) (d := 19) (v := ?_) rfl rfl (by kernel_rfl) (by kernel_rfl) (by kernel_rfl) (by rfl) ?_ (by assumption) (fun _ _ _ h => h) ?_
    rotate_left
    · intro w hSw
      go_simp
      with_reducible rfl
    try simp only [Act.put, List.setIfInBounds_toArray, List.set_cons_zero, List.set_cons_succ]
    refine Hand.held_take (i := 4) (d := 21) (v := ?_) rfl rfl (by kernel_rfl) (by kernel_rfl) (by kernel_rfl) (by rfl) ?_ (by assumption) (fun _ _ _ h => h) ?_
    rotate_left
    · intro w hSw
      go_simp
      with_reducible rfl
    try simp only [Act.put, List.setIfInBounds_toArray, List.set_cons_zero, List.set_cons_succ]
    refine Hand.held_take (i := 6) (d := 23) (v := ?_) rfl rfl (by kernel_rfl) (by kernel_rfl) (by kernel_rfl) (by rfl) ?_ (by assumption) (fun _ _ _ h => h) ?_
    rotate_left
    · intro w hSw
      go_simp
      with_reducible rfl
    try simp only [Act.put, List.setIfInBounds_toArray, List.set_cons_zero, List.set_cons_succ]
    refine wpAnyH_ready (rs := [1, 3, 5, 7]) (by kernel_rfl) (by simp) ?_
    refine AllReadyH.cons rfl (fun K hK => ?_) (AllReadyH.cons rfl (fun K hK => ?_) (AllReadyH.cons rfl (fun K hK => ?_) (AllReadyH.cons rfl (fun K hK => ?_) AllReadyH.nil)))
    · go_simp
      go_wp2_with (go_at_call 42; refine (HPN.out _).mono ?_; rintro e X1 ⟨gp, rfl, hlo, hp, hb⟩)
      obtain ⟨lo, hlo2⟩ : ∃ lo, lo = X0.heap.size := ⟨_, rfl⟩
      have hlp : W.heap.size ≤ lo := by rw [hlo2]; exact HBX.out.size
      replace hlo : lo ≤ gp := by rw [hlo2]; exact hlo
      replace hp : PlanPkg.RefAt X1 lo gp [] 0 := by rw [hlo2]; exact hp
      have hgl := hp.lt
      have HP := Lib.hid hp
      clear hlo2 hp
      replace hb : Below X0.heap.size X0 X1 := hb
      replace HGX := Lib.hid (geo_keep HGX.out hb)
      replace HBX := Lib.hid (below_then HBX.out hb)
      refine hK.out _ _ ?_ (fun hHeld => ?_)
      · exact HGX.out
      clear hK K hb
      refine wpAnyH_ready (rs := [3, 5, 7]) (by kernel_rfl) (by simp) ?_
      refine AllReadyH.cons rfl (fun K hK => ?_) (AllReadyH.cons rfl (fun K hK => ?_) (AllReadyH.cons rfl (fun K hK => ?_) AllReadyH.nil))
      · have hmk := HMI.out X1
        have hmk2 := HMI.out X1.drew
        go_simp
        clear hmk hmk2
        have hb : Below X1.heap.size X1 (X1.alloc (.cells (madeCells #[.int .i64 0] N) 3)) := (Below.refl _ _).alloc (Nat.le_refl _) _
        have hrow := World.rowIs_made X1 (.int .i64 0) N 3
        generalize X1.alloc (.cells (madeCells #[.int .i64 0] N) 3) = X2 at hb hrow ⊢
        obtain ⟨gn, hgn⟩ : ∃ g, g = X1.heap.size := ⟨_, rfl⟩
        rw [← hgn] at hrow ⊢
        have hln : W.heap.size ≤ gn := by rw [hgn]; exact HBX.out.size
        have HN_n := Lib.hid hrow
        have hd_p_n : gp < gn := by have := HP.out.lt; omega
        clear hgn hrow
        replace HP := Lib.hid (HP.out.below hb hlo)
        replace HGX := Lib.hid (geo_keep HGX.out hb)
        replace HBX := Lib.hid (below_then HBX.out hb)
        refine hK.out _ _ ?_ (fun hHeld => ?_)
        · exact HGX.out
        clear hK K hb
        refine wpAnyH_ready (rs := [5, 7]) (by kernel_rfl) (by simp) ?_
        refine AllReadyH.cons rfl (fun K hK => ?_) (AllReadyH.cons rfl (fun K hK => ?_) AllReadyH.nil)
        · have hmk := HMI.out X2
          have hmk2 := HMI.out X2.drew
          go_simp
          clear hmk hmk2
          have hb : Below X2.heap.size X2 (X2.alloc (.cells (madeCells #[.int .i64 0] N) 3)) := (Below.refl _ _).alloc (Nat.le_refl _) _
          have hrow := World.rowIs_made X2 (.int .i64 0) N 3
          generalize X2.alloc (.cells (madeCells #[.int .i64 0] N) 3) = X3 at hb hrow ⊢
          obtain ⟨gw, hgw⟩ : ∃ g, g = X2.heap.size := ⟨_, rfl⟩
          rw [← hgw] at hrow ⊢
          have hlw : W.heap.size ≤ gw := by rw [hgw]; exact HBX.out.size
          have HN_w := Lib.hid hrow
          have hd_p_w : gp < gw := by have := HP.out.lt; omega
          have hd_n_w : gn < gw := by have := HN_n.out.lt; omega
          clear hgw hrow
          replace HP := Lib.hid (HP.out.below hb hlo)
          replace HN_n := Lib.hid (HN_n.out.of_block (hb.block _ HN_n.out.lt))
          replace HGX := Lib.hid (geo_keep HGX.out hb)
          replace HBX := Lib.hid (below_then HBX.out hb)
          refine hK.out _ _ ?_ (fun hHeld => ?_)
          · exact HGX.out
          clear hK K hb
          refine wpAnyH_ready (rs := [7]) (by kernel_rfl) (by simp) ?_
          refine AllReadyH.cons rfl (fun K hK => ?_) AllReadyH.nil
          · have hmk := HMB.out X3
            have hmk2 := HMB.out X3.drew
            go_simp
            clear hmk hmk2
            have hb : Below X3.heap.size X3 (X3.alloc (.cells (madeCells #[.bool false] N) 4)) := (Below.refl _ _).alloc (Nat.le_refl _) _
            have hrow := World.rowIs_made X3 (.bool false) N 4
            generalize X3.alloc (.cells (madeCells #[.bool false] N) 4) = X4 at hb hrow ⊢
            obtain ⟨gr, hgr⟩ : ∃ g, g = X3.heap.size := ⟨_, rfl⟩
            rw [← hgr] at hrow ⊢
            have hlr : W.heap.size ≤ gr := by rw [hgr]; exact HBX.out.size
            have HN_r := Lib.hid hrow
            have hd_p_r : gp < gr := by have := HP.out.lt; omega
            have hd_n_r : gn < gr := by have := HN_n.out.lt; omega
            have hd_w_r : gw < gr := by have := HN_w.out.lt; omega
            clear hgr hrow
            replace HP := Lib.hid (HP.out.below hb hlo)
            replace HN_n := Lib.hid (HN_n.out.of_block (hb.block _ HN_n.out.lt))
            replace HN_w := Lib.hid (HN_w.out.of_block (hb.block _ HN_w.out.lt))
            replace HGX := Lib.hid (geo_keep HGX.out hb)
            replace HBX := Lib.hid (below_then HBX.out hb)
            refine hK.out _ _ ?_ (fun hHeld => ?_)
            · exact HGX.out
            clear hK K hb
            refine Hand.held_take (i := 8) (d := 25) (v := ?_) rfl rfl (by kernel_rfl) (by kernel_rfl) (by kernel_rfl) (by rfl) ?_ (by assumption) (fun _ _ _ h => h) ?_
            rotate_left
            · intro w hSw
              go_simp
              with_reducible rfl
            try simp only [Act.put, List.setIfInBounds_toArray, List.set_cons_zero, List.set_cons_succ]
            refine wpAnyH_ready (rs := [9]) (by kernel_rfl) (by simp) ?_
            refine AllReadyH.cons rfl (fun K hK => ?_) AllReadyH.nil
            go_simp
            have hfin := ref_new (G := G) (HNN.out ▸ HN_n.out) (HNN.out ▸ HN_w.out) (HNN.out ▸ HN_r.out) HP.out hlo (by omega) (by omega) (by omega) (by omega) (by omega) (by omega)
            have HFIN := Lib.hid hfin
            refine hK.out _ _ ?_ (fun hHeld => ?_)
            · exact geo_keep HGX.out ((Below.refl _ _).alloc (Nat.le_refl _) _)
            clear hK K hfin
            refine Hand.held_take (i := 10) (d := 7) (v := ?_) rfl rfl (by kernel_rfl) (by kernel_rfl) (by kernel_rfl) (by rfl) ?_ (by assumption) (fun _ _ _ h => h) ?_
            rotate_left
            · intro w hSw
              go_simp
              with_reducible rfl
            try simp only [Act.put, List.setIfInBounds_toArray, List.set_cons_zero, List.set_cons_succ]
            refine wpAnyH_done (by kernel_rfl) ?_ _
            go_wp2_with fail
            go_meet
            refine ⟨⟨X4.heap.size, gn, gw, gr, lo, gp, .slice none 0 0, 0, kind0 X4.heap.size gn gw gr lo gp⟩, rfl, ?_, fun b hb => kind0_up (B := W.heap.size) HBX.out.size hln hlw hlr hlp hb, HBX.out.alloc HBX.out.size _, rfl⟩
            have h := HFIN.out
            simp only [headCells, ← HNN.out] at h
            exact h
        · have hmk := HMB.out X2
          have hmk2 := HMB.out X2.drew
          go_simp
          clear hmk hmk2
          have hb : Below X2.heap.size X2 (X2.alloc (.cells (madeCells #[.bool false] N) 4)) := (Below.refl _ _).alloc (Nat.le_refl _) _
          have hrow := World.rowIs_made X2 (.bool false) N 4
          generalize X2.alloc (.cells (madeCells #[.bool false] N) 4) = X3 at hb hrow ⊢
          obtain ⟨gr, hgr⟩ : ∃ g, g = X2.heap.size := ⟨_, rfl⟩
          rw [← hgr] at hrow ⊢
          have hlr : W.heap.size ≤ gr := by rw [hgr]; exact HBX.out.size
          have HN_r := Lib.hid hrow
          have hd_p_r : gp < gr := by have := HP.out.lt; omega
          have hd_n_r : gn < gr := by have := HN_n.out.lt; omega
          clear hgr hrow
          replace HP := Lib.hid (HP.out.below hb hlo)
          replace HN_n := Lib.hid (HN_n.out.of_block (hb.block _ HN_n.out.lt))
          replace HGX := Lib.hid (geo_keep HGX.out hb)
          replace HBX := Lib.hid (below_then HBX.out hb)
          refine hK.out _ _ ?_ (fun hHeld => ?_)
          · exact HGX.out
          clear hK K hb
          refine wpAnyH_ready (rs := [5]) (by kernel_rfl) (by simp) ?_
          refine AllReadyH.cons rfl (fun K hK => ?_) AllReadyH.nil
          · have hmk := HMI.out X3
            have hmk2 := HMI.out X3.drew
            go_simp
            clear hmk hmk2
            have hb : Below X3.heap.size X3 (X3.alloc (.cells (madeCells #[.int .i64 0] N) 3)) := (Below.refl _ _).alloc (Nat.le_refl _) _
            have hrow := World.rowIs_made X3 (.int .i64 0) N 3
            generalize X3.alloc (.cells (madeCells #[.int .i64 0] N) 3) = X4 at hb hrow ⊢
            obtain ⟨gw, hgw⟩ : ∃ g, g = X3.heap.size := ⟨_, rfl⟩
            rw [← hgw] at hrow ⊢
            have hlw : W.heap.size ≤ gw := by rw [hgw]; exact HBX.out.size
            have HN_w := Lib.hid hrow
            have hd_p_w : gp < gw := by have := HP.out.lt; omega
            have hd_n_w : gn < gw := by have := HN_n.out.lt; omega
            have hd_r_w : gr < gw := by have := HN_r.out.lt; omega
            clear hgw hrow
            replace HP := Lib.hid (HP.out.below hb hlo)
            replace HN_n := Lib.hid (HN_n.out.of_block (hb.block _ HN_n.out.lt))
            replace HN_r := Lib.hid (HN_r.out.of_block (hb.block _ HN_r.out.lt))
            replace HGX := Lib.hid (geo_keep HGX.out hb)
            replace HBX := Lib.hid (below_then HBX.out hb)
            refine hK.out _ _ ?_ (fun hHeld => ?_)
            · exact HGX.out
            clear hK K hb
            refine Hand.held_take (i := 8) (d := 25) (v := ?_) rfl rfl (by kernel_rfl) (by kernel_rfl) (by kernel_rfl) (by rfl) ?_ (by assumption) (fun _ _ _ h => h) ?_
            rotate_left
            · intro w hSw
              go_simp
              with_reducible rfl
            try simp only [Act.put, List.setIfInBounds_toArray, List.set_cons_zero, List.set_cons_succ]
            refine wpAnyH_ready (rs := [9]) (by kernel_rfl) (by simp) ?_
            refine AllReadyH.cons rfl (fun K hK => ?_) AllReadyH.nil
            go_simp
            have hfin := ref_new (G := G) (HNN.out ▸ HN_n.out) (HNN.out ▸ HN_w.out) (HNN.out ▸ HN_r.out) HP.out hlo (by omega) (by omega) (by omega) (by omega) (by omega) (by omega)
            have HFIN := Lib.hid hfin
            refine hK.out _ _ ?_ (fun hHeld => ?_)
            · exact geo_keep HGX.out ((Below.refl _ _).alloc (Nat.le_refl _) _)
            clear hK K hfin
            refine Hand.held_take (i := 10) (d := 7) (v := ?_) rfl rfl (by kernel_rfl) (by kernel_rfl) (by kernel_rfl) (by rfl) ?_ (by assumption) (fun _ _ _ h => h) ?_
            rotate_left
            · intro w hSw
              go_simp
              with_reducible rfl
            try simp only [Act.put, List.setIfInBounds_toArray, List.set_cons_zero, List.set_cons_succ]
            refine wpAnyH_done (by kernel_rfl) ?_ _
            go_wp2_with fail
            go_meet
            refine ⟨⟨X4.heap.size, gn, gw, gr, lo, gp, .slice none 0 0, 0, kind0 X4.heap.size gn gw gr lo gp⟩, rfl, ?_, fun b hb => kind0_up (B := W.heap.size) HBX.out.size hln hlw hlr hlp hb, HBX.out.alloc HBX.out.size _, rfl⟩
            have h := HFIN.out
            simp only [headCells, ← HNN.out] at h
            exact h
      · have hmk := HMI.out X1
        have hmk2 := HMI.out X1.drew
        go_simp
        clear hmk hmk2
        have hb : Below X1.heap.size X1 (X1.alloc (.cells (madeCells #[.int .i64 0] N) 3)) := (Below.refl _ _).alloc (Nat.le_refl _) _
        have hrow := World.rowIs_made X1 (.int .i64 0) N 3
        generalize X1.alloc (.cells (madeCells #[.int .i64 0] N) 3) = X2 at hb hrow ⊢
        obtain ⟨gw, hgw⟩ : ∃ g, g = X1.heap.size := ⟨_, rfl⟩
        rw [← hgw] at hrow ⊢
        have hlw : W.heap.size ≤ gw := by rw [hgw]; exact HBX.out.size
        have HN_w := Lib.hid hrow
        have hd_p_w : gp < gw := by have := HP.out.lt; omega
        clear hgw hrow
        replace HP := Lib.hid (HP.out.below hb hlo)
        replace HGX := Lib.hid (geo_keep HGX.out hb)
        replace HBX := Lib.hid (below_then HBX.out hb)
        refine hK.out _ _ ?_ (fun hHeld => ?_)
        · exact HGX.out
        clear hK K hb
        refine wpAnyH_ready (rs := [3, 7]) (by kernel_rfl) (by simp) ?_
        refine AllReadyH.cons rfl (fun K hK => ?_) (AllReadyH.cons rfl (fun K hK => ?_) AllReadyH.nil)
        · have hmk := HMI.out X2
          have hmk2 := HMI.out X2.drew
          go_simp
          clear hmk hmk2
          have hb : Below X2.heap.size X2 (X2.alloc (.cells (madeCells #[.int .i64 0] N) 3)) := (Below.refl _ _).alloc (Nat.le_refl _) _
          have hrow := World.rowIs_made X2 (.int .i64 0) N 3
          generalize X2.alloc (.cells (madeCells #[.int .i64 0] N) 3) = X3 at hb hrow ⊢
          obtain ⟨gn, hgn⟩ : ∃ g, g = X2.heap.size := ⟨_, rfl⟩
          rw [← hgn] at hrow ⊢
          have hln : W.heap.size ≤ gn := by rw [hgn]; exact HBX.out.size
          have HN_n := Lib.hid hrow
          have hd_p_n : gp < gn := by have := HP.out.lt; omega
          have hd_w_n : gw < gn := by have := HN_w.out.lt; omega
          clear hgn hrow
          replace HP := Lib.hid (HP.out.below hb hlo)
          replace HN_w := Lib.hid (HN_w.out.of_block (hb.block _ HN_w.out.lt))
          replace HGX := Lib.hid (geo_keep HGX.out hb)
          replace HBX := Lib.hid (below_then HBX.out hb)
          refine hK.out _ _ ?_ (fun hHeld => ?_)
          · exact HGX.out
          clear hK K hb
          refine wpAnyH_ready (rs := [7]) (by kernel_rfl) (by simp) ?_
          refine AllReadyH.cons rfl (fun K hK => ?_) AllReadyH.nil
          · have hmk := HMB.out X3
            have hmk2 := HMB.out X3.drew
            go_simp
            clear hmk hmk2
            have hb : Below X3.heap.size X3 (X3.alloc (.cells (madeCells #[.bool false] N) 4)) := (Below.refl _ _).alloc (Nat.le_refl _) _
            have hrow := World.rowIs_made X3 (.bool false) N 4
            generalize X3.alloc (.cells (madeCells #[.bool false] N) 4) = X4 at hb hrow ⊢
            obtain ⟨gr, hgr⟩ : ∃ g, g = X3.heap.size := ⟨_, rfl⟩
            rw [← hgr] at hrow ⊢
            have hlr : W.heap.size ≤ gr := by rw [hgr]; exact HBX.out.size
            have HN_r := Lib.hid hrow
            have hd_p_r : gp < gr := by have := HP.out.lt; omega
            have hd_w_r : gw < gr := by have := HN_w.out.lt; omega
            have hd_n_r : gn < gr := by have := HN_n.out.lt; omega
            clear hgr hrow
            replace HP := Lib.hid (HP.out.below hb hlo)
            replace HN_w := Lib.hid (HN_w.out.of_block (hb.block _ HN_w.out.lt))
            replace HN_n := Lib.hid (HN_n.out.of_block (hb.block _ HN_n.out.lt))
            replace HGX := Lib.hid (geo_keep HGX.out hb)
            replace HBX := Lib.hid (below_then HBX.out hb)
            refine hK.out _ _ ?_ (fun hHeld => ?_)
            · exact HGX.out
            clear hK K hb
            refine Hand.held_take (i := 8) (d := 25) (v := ?_) rfl rfl (by kernel_rfl) (by kernel_rfl) (by kernel_rfl) (by rfl) ?_ (by assumption) (fun _ _ _ h => h) ?_
            rotate_left
            · intro w hSw
              go_simp
              with_reducible rfl
            try simp only [Act.put, List.setIfInBounds_toArray, List.set_cons_zero, List.set_cons_succ]
            refine wpAnyH_ready (rs := [9]) (by kernel_rfl) (by simp) ?_
            refine AllReadyH.cons rfl (fun K hK => ?_) AllReadyH.nil
            go_simp
            have hfin := ref_new (G := G) (HNN.out ▸ HN_n.out) (HNN.out ▸ HN_w.out) (HNN.out ▸ HN_r.out) HP.out hlo (by omega) (by omega) (by omega) (by omega) (by omega) (by omega)
            have HFIN := Lib.hid hfin
            refine hK.out _ _ ?_ (fun hHeld => ?_)
            · exact geo_keep HGX.out ((Below.refl _ _).alloc (Nat.le_refl _) _)
            clear hK K hfin
            refine Hand.held_take (i := 10) (d := 7) (v := ?_) rfl rfl (by kernel_rfl) (by kernel_rfl) (by kernel_rfl) (by rfl) ?_ (by assumption) (fun _ _ _ h => h) ?_
            rotate_left
            · intro w hSw
              go_simp
              with_reducible rfl
            try simp only [Act.put, List.setIfInBounds_toArray, List.set_cons_zero, List.set_cons_succ]
            refine wpAnyH_done (by kernel_rfl) ?_ _
            go_wp2_with fail
            go_meet
            refine ⟨⟨X4.heap.size, gn, gw, gr, lo, gp, .slice none 0 0, 0, kind0 X4.heap.size gn gw gr lo gp⟩, rfl, ?_, fun b hb => kind0_up (B := W.heap.size) HBX.out.size hln hlw hlr hlp hb, HBX.out.alloc HBX.out.size _, rfl⟩
            have h := HFIN.out
            simp only [headCells, ← HNN.out] at h
            exact h
        · have hmk := HMB.out X2
          have hmk2 := HMB.out X2.drew
          go_simp
          clear hmk hmk2
          have hb : Below X2.heap.size X2 (X2.alloc (.cells (madeCells #[.bool false] N) 4)) := (Below.refl _ _).alloc (Nat.le_refl _) _
          have hrow := World.rowIs_made X2 (.bool false) N 4
          generalize X2.alloc (.cells (madeCells #[.bool false] N) 4) = X3 at hb hrow ⊢
          obtain ⟨gr, hgr⟩ : ∃ g, g = X2.heap.size := ⟨_, rfl⟩
          rw [← hgr] at hrow ⊢
          have hlr : W.heap.size ≤ gr := by rw [hgr]; exact HBX.out.size
          have HN_r := Lib.hid hrow
          have hd_p_r : gp < gr := by have := HP.out.lt; omega
          have hd_w_r : gw < gr := by have := HN_w.out.lt; omega
          clear hgr hrow
          replace HP := Lib.hid (HP.out.below hb hlo)
          replace HN_w := Lib.hid (HN_w.out.of_block (hb.block _ HN_w.out.lt))
          replace HGX := Lib.hid (geo_keep HGX.out hb)
          replace HBX := Lib.hid (below_then HBX.out hb)
          refine hK.out _ _ ?_ (fun hHeld => ?_)
          · exact HGX.out
          clear hK K hb
          refine wpAnyH_ready (rs := [3]) (by kernel_rfl) (by simp) ?_
          refine AllReadyH.cons rfl (fun K hK => ?_) AllReadyH.nil
          · have hmk := HMI.out X3
            have hmk2 := HMI.out X3.drew
            go_simp
            clear hmk hmk2
            have hb : Below X3.heap.size X3 (X3.alloc (.cells (madeCells #[.int .i64 0] N) 3)) := (Below.refl _ _).alloc (Nat.le_refl _) _
            have hrow := World.rowIs_made X3 (.int .i64 0) N 3
            generalize X3.alloc (.cells (madeCells #[.int .i64 0] N) 3) = X4 at hb hrow ⊢
            obtain ⟨gn, hgn⟩ : ∃ g, g = X3.heap.size := ⟨_, rfl⟩
            rw [← hgn] at hrow ⊢
            have hln : W.heap.size ≤ gn := by rw [hgn]; exact HBX.out.size
            have HN_n := Lib.hid hrow
            have hd_p_n : gp < gn := by have := HP.out.lt; omega
            have hd_w_n : gw < gn := by have := HN_w.out.lt; omega
            have hd_r_n : gr < gn := by have := HN_r.out.lt; omega
            clear hgn hrow
            replace HP := Lib.hid (HP.out.below hb hlo)
            replace HN_w := Lib.hid (HN_w.out.of_block (hb.block _ HN_w.out.lt))
            replace HN_r := Lib.hid (HN_r.out.of_block (hb.block _ HN_r.out.lt))
            replace HGX := Lib.hid (geo_keep HGX.out hb)
            replace HBX := Lib.hid (below_then HBX.out hb)
            refine hK.out _ _ ?_ (fun hHeld => ?_)
            · exact HGX.out
            clear hK K hb
            refine Hand.held_take (i := 8) (d := 25) (v := ?_) rfl rfl (by kernel_rfl) (by kernel_rfl) (by kernel_rfl) (by rfl) ?_ (by assumption) (fun _ _ _ h => h) ?_
            rotate_left
            · intro w hSw
              go_simp
              with_reducible rfl
            try simp only [Act.put, List.setIfInBounds_toArray, List.set_cons_zero, List.set_cons_succ]
            refine wpAnyH_ready (rs := [9]) (by kernel_rfl) (by simp) ?_
            refine AllReadyH.cons rfl (fun K hK => ?_) AllReadyH.nil
            go_simp
            have hfin := ref_new (G := G) (HNN.out ▸ HN_n.out) (HNN.out ▸ HN_w.out) (HNN.out ▸ HN_r.out) HP.out hlo (by omega) (by omega) (by omega) (by omega) (by omega) (by omega)
            have HFIN := Lib.hid hfin
            refine hK.out _ _ ?_ (fun hHeld => ?_)
            · exact geo_keep HGX.out ((Below.refl _ _).alloc (Nat.le_refl _) _)
            clear hK K hfin
            refine Hand.held_take (i := 10) (d := 7) (v := ?_) rfl rfl (by kernel_rfl) (by kernel_rfl) (by kernel_rfl) (by rfl) ?_ (by assumption) (fun _ _ _ h => h) ?_
            rotate_left
            · intro w hSw
              go_simp
              with_reducible rfl
            try simp only [Act.put, List.setIfInBounds_toArray, List.set_cons_zero, List.set_cons_succ]
            refine wpAnyH_done (by kernel_rfl) ?_ _
            go_wp2_with fail
            go_meet
            refine ⟨⟨X4.heap.size, gn, gw, gr, lo, gp, .slice none 0 0, 0, kind0 X4.heap.size gn gw gr lo gp⟩, rfl, ?_, fun b hb => kind0_up (B := W.heap.size) HBX.out.size hln hlw hlr hlp hb, HBX.out.alloc HBX.out.size _, rfl⟩
            have h := HFIN.out
            simp only [headCells, ← HNN.out] at h
            exact h
      · have hmk := HMB.out X1
        have hmk2 := HMB.out X1.drew
        go_simp
        clear hmk hmk2
        have hb : Below X1.heap.size X1 (X1.alloc (.cells (madeCells #[.bool false] N) 4)) := (Below.refl _ _).alloc (Nat.le_refl _) _
        have hrow := World.rowIs_made X1 (.bool false) N 4
        generalize X1.alloc (.cells (madeCells #[.bool false] N) 4) = X2 at hb hrow ⊢
        obtain ⟨gr, hgr⟩ : ∃ g, g = X1.heap.size := ⟨_, rfl⟩
        rw [← hgr] at hrow ⊢
        have hlr : W.heap.size ≤ gr := by rw [hgr]; exact HBX.out.size
        have HN_r := Lib.hid hrow
        have hd_p_r : gp < gr := by have := HP.out.lt; omega
        clear hgr hrow
        replace HP := Lib.hid (HP.out.below hb hlo)
        replace HGX := Lib.hid (geo_keep HGX.out hb)
        replace HBX := Lib.hid (below_then HBX.out hb)
        refine hK.out _ _ ?_ (fun hHeld => ?_)
        · exact HGX.out
        clear hK K hb
        refine wpAnyH_ready (rs := [3, 5]) (by kernel_rfl) (by simp) ?_
        refine AllReadyH.cons rfl (fun K hK => ?_) (AllReadyH.cons rfl (fun K hK => ?_) AllReadyH.nil)
        · have hmk := HMI.out X2
          have hmk2 := HMI.out X2.drew
          go_simp
          clear hmk hmk2
          have hb : Below X2.heap.size X2 (X2.alloc (.cells (madeCells #[.int .i64 0] N) 3)) := (Below.refl _ _).alloc (Nat.le_refl _) _
          have hrow := World.rowIs_made X2 (.int .i64 0) N 3
          generalize X2.alloc (.cells (madeCells #[.int .i64 0] N) 3) = X3 at hb hrow ⊢
          obtain ⟨gn, hgn⟩ : ∃ g, g = X2.heap.size := ⟨_, rfl⟩
          rw [← hgn] at hrow ⊢
          have hln : W.heap.size ≤ gn := by rw [hgn]; exact HBX.out.size
          have HN_n := Lib.hid hrow
          have hd_p_n : gp < gn := by have := HP.out.lt; omega
          have hd_r_n : gr < gn := by have := HN_r.out.lt; omega
          clear hgn hrow
          replace HP := Lib.hid (HP.out.below hb hlo)
          replace HN_r := Lib.hid (HN_r.out.of_block (hb.block _ HN_r.out.lt))
          replace HGX := Lib.hid (geo_keep HGX.out hb)
          replace HBX := Lib.hid (below_then HBX.out hb)
          refine hK.out _ _ ?_ (fun hHeld => ?_)
          · exact HGX.out
          clear hK K hb
          refine wpAnyH_ready (rs := [5]) (by kernel_rfl) (by simp) ?_
          refine AllReadyH.cons rfl (fun K hK => ?_) AllReadyH.nil
          · have hmk := HMI.out X3
            have hmk2 := HMI.out X3.drew
            go_simp
            clear hmk hmk2
            have hb : Below X3.heap.size X3 (X3.alloc (.cells (madeCells #[.int .i64 0] N) 3)) := (Below.refl _ _).alloc (Nat.le_refl _) _
            have hrow := World.rowIs_made X3 (.int .i64 0) N 3
            generalize X3.alloc (.cells (madeCells #[.int .i64 0] N) 3) = X4 at hb hrow ⊢
            obtain ⟨gw, hgw⟩ : ∃ g, g = X3.heap.size := ⟨_, rfl⟩
            rw [← hgw] at hrow ⊢
            have hlw : W.heap.size ≤ gw := by rw [hgw]; exact HBX.out.size
            have HN_w := Lib.hid hrow
            have hd_p_w : gp < gw := by have := HP.out.lt; omega
            have hd_r_w : gr < gw := by have := HN_r.out.lt; omega
            have hd_n_w : gn < gw := by have := HN_n.out.lt; omega
            clear hgw hrow
            replace HP := Lib.hid (HP.out.below hb hlo)
            replace HN_r := Lib.hid (HN_r.out.of_block (hb.block _ HN_r.out.lt))
            replace HN_n := Lib.hid (HN_n.out.of_block (hb.block _ HN_n.out.lt))
            replace HGX := Lib.hid (geo_keep HGX.out hb)
            replace HBX := Lib.hid (below_then HBX.out hb)
            refine hK.out _ _ ?_ (fun hHeld => ?_)
            · exact HGX.out
            clear hK K hb
            refine Hand.held_take (i := 8) (d := 25) (v := ?_) rfl rfl (by kernel_rfl) (by kernel_rfl) (by kernel_rfl) (by rfl) ?_ (by assumption) (fun _ _ _ h => h) ?_
            rotate_left
            · intro w hSw
              go_simp
              with_reducible rfl
            try simp only [Act.put, List.setIfInBounds_toArray, List.set_cons_zero, List.set_cons_succ]
            refine wpAnyH_ready (rs := [9]) (by kernel_rfl) (by simp) ?_
            refine AllReadyH.cons rfl (fun K hK => ?_) AllReadyH.nil
            go_simp
            have hfin := ref_new (G := G) (HNN.out ▸ HN_n.out) (HNN.out ▸ HN_w.out) (HNN.out ▸ HN_r.out) HP.out hlo (by omega) (by omega) (by omega) (by omega) (by omega) (by omega)
            have HFIN := Lib.hid hfin
            refine hK.out _ _ ?_ (fun hHeld => ?_)
            · exact geo_keep HGX.out ((Below.refl _ _).alloc (Nat.le_refl _) _)
            clear hK K hfin
            refine Hand.held_take (i := 10) (d := 7) (v := ?_) rfl rfl (by kernel_rfl) (by kernel_rfl) (by kernel_rfl) (by rfl) ?_ (by assumption) (fun _ _ _ h => h) ?_
            rotate_left
            · intro w hSw
              go_simp
              with_reducible rfl
            try simp only [Act.put, List.setIfInBounds_toArray, List.set_cons_zero, List.set_cons_succ]
            refine wpAnyH_done (by kernel_rfl) ?_ _
            go_wp2_with fail
            go_meet
            refine ⟨⟨X4.heap.size, gn, gw, gr, lo, gp, .slice none 0 0, 0, kind0 X4.heap.size gn gw gr lo gp⟩, rfl, ?_, fun b hb => kind0_up (B := W.heap.size) HBX.out.size hln hlw hlr hlp hb, HBX.out.alloc HBX.out.size _, rfl⟩
            have h := HFIN.out
            simp only [headCells, ← HNN.out] at h
            exact h
        · have hmk := HMI.out X2
          have hmk2 := HMI.out X2.drew
          go_simp
          clear hmk hmk2
          have hb : Below X2.heap.size X2 (X2.alloc (.cells (madeCells #[.int .i64 0] N) 3)) := (Below.refl _ _).alloc (Nat.le_refl _) _
          have hrow := World.rowIs_made X2 (.int .i64 0) N 3
          generalize X2.alloc (.cells (madeCells #[.int .i64 0] N) 3) = X3 at hb hrow ⊢
          obtain ⟨gw, hgw⟩ : ∃ g, g = X2.heap.size := ⟨_, rfl⟩
          rw [← hgw] at hrow ⊢
          have hlw : W.heap.size ≤ gw := by rw [hgw]; exact HBX.out.size
          have HN_w := Lib.hid hrow
          have hd_p_w : gp < gw := by have := HP.out.lt; omega
          have hd_r_w : gr < gw := by have := HN_r.out.lt; omega
          clear hgw hrow
          replace HP := Lib.hid (HP.out.below hb hlo)
          replace HN_r := Lib.hid (HN_r.out.of_block (hb.block _ HN_r.out.lt))
          replace HGX := Lib.hid (geo_keep HGX.out hb)
          replace HBX := Lib.hid (below_then HBX.out hb)
          refine hK.out _ _ ?_ (fun hHeld => ?_)
          · exact HGX.out
          clear hK K hb
          refine wpAnyH_ready (rs := [3]) (by kernel_rfl) (by simp) ?_
          refine AllReadyH.cons rfl (fun K hK => ?_) AllReadyH.nil
          · have hmk := HMI.out X3
            have hmk2 := HMI.out X3.drew
            go_simp
            clear hmk hmk2
            have hb : Below X3.heap.size X3 (X3.alloc (.cells (madeCells #[.int .i64 0] N) 3)) := (Below.refl _ _).alloc (Nat.le_refl _) _
            have hrow := World.rowIs_made X3 (.int .i64 0) N 3
            generalize X3.alloc (.cells (madeCells #[.int .i64 0] N) 3) = X4 at hb hrow ⊢
            obtain ⟨gn, hgn⟩ : ∃ g, g = X3.heap.size := ⟨_, rfl⟩
            rw [← hgn] at hrow ⊢
            have hln : W.heap.size ≤ gn := by rw [hgn]; exact HBX.out.size
            have HN_n := Lib.hid hrow
            have hd_p_n : gp < gn := by have := HP.out.lt; omega
            have hd_r_n : gr < gn := by have := HN_r.out.lt; omega
            have hd_w_n : gw < gn := by have := HN_w.out.lt; omega
            clear hgn hrow
            replace HP := Lib.hid (HP.out.below hb hlo)
            replace HN_r := Lib.hid (HN_r.out.of_block (hb.block _ HN_r.out.lt))
            replace HN_w := Lib.hid (HN_w.out.of_block (hb.block _ HN_w.out.lt))
            replace HGX := Lib.hid (geo_keep HGX.out hb)
            replace HBX := Lib.hid (below_then HBX.out hb)
            refine hK.out _ _ ?_ (fun hHeld => ?_)
            · exact HGX.out
            clear hK K hb
            refine Hand.held_take (i := 8) (d := 25) (v := ?_) rfl rfl (by kernel_rfl) (by kernel_rfl) (by kernel_rfl) (by rfl) ?_ (by assumption) (fun _ _ _ h => h) ?_
            rotate_left
            · intro w hSw
              go_simp
              with_reducible rfl
            try simp only [Act.put, List.setIfInBounds_toArray, List.set_cons_zero, List.set_cons_succ]
            refine wpAnyH_ready (rs := [9]) (by kernel_rfl) (by simp) ?_
            refine AllReadyH.cons rfl (fun K hK => ?_) AllReadyH.nil
            go_simp
            have hfin := ref_new (G := G) (HNN.out ▸ HN_n.out) (HNN.out ▸ HN_w.out) (HNN.out ▸ HN_r.out) HP.out hlo (by omega) (by omega) (by omega) (by omega) (by omega) (by omega)
            have HFIN := Lib.hid hfin
            refine hK.out _ _ ?_ (fun hHeld => ?_)
            · exact geo_keep HGX.out ((Below.refl _ _).alloc (Nat.le_refl _) _)
            clear hK K hfin
            refine Hand.held_take (i := 10) (d := 7) (v := ?_) rfl rfl (by kernel_rfl) (by kernel_rfl) (by kernel_rfl) (by rfl) ?_ (by assumption) (fun _ _ _ h => h) ?_
            rotate_left
            · intro w hSw
              go_simp
              with_reducible rfl
            try simp only [Act.put, List.setIfInBounds_toArray, List.set_cons_zero, List.set_cons_succ]
            refine wpAnyH_done (by kernel_rfl) ?_ _
            go_wp2_with fail
            go_meet
            refine ⟨⟨X4.heap.size, gn, gw, gr, lo, gp, .slice none 0 0, 0, kind0 X4.heap.size gn gw gr lo gp⟩, rfl, ?_, fun b hb => kind0_up (B := W.heap.size) HBX.out.size hln hlw hlr hlp hb, HBX.out.alloc HBX.out.size _, rfl⟩
            have h := HFIN.out
            simp only [headCells, ← HNN.out] at h
            exact h
    · have hmk := HMI.out X0
      have hmk2 := HMI.out X0.drew
      go_simp
      clear hmk hmk2
      have hb : Below X0.heap.size X0 (X0.alloc (.cells (madeCells #[.int .i64 0] N) 3)) := (Below.refl _ _).alloc (Nat.le_refl _) _
      have hrow := World.rowIs_made X0 (.int .i64 0) N 3
      generalize X0.alloc (.cells (madeCells #[.int .i64 0] N) 3) = X1 at hb hrow ⊢
      obtain ⟨gn, hgn⟩ : ∃ g, g = X0.heap.size := ⟨_, rfl⟩
      rw [← hgn] at hrow ⊢
      have hln : W.heap.size ≤ gn := by rw [hgn]; exact HBX.out.size
      have HN_n := Lib.hid hrow
      clear hgn hrow
      replace HGX := Lib.hid (geo_keep HGX.out hb)
      replace HBX := Lib.hid (below_then HBX.out hb)
      refine hK.out _ _ ?_ (fun hHeld => ?_)
      · exact HGX.out
      clear hK K hb
      refine wpAnyH_ready (rs := [1, 5, 7]) (by kernel_rfl) (by simp) ?_
      refine AllReadyH.cons rfl (fun K hK => ?_) (AllReadyH.cons rfl (fun K hK => ?_) (AllReadyH.cons rfl (fun K hK => ?_) AllReadyH.nil))
      · go_simp
        go_wp2_with (go_at_call 42; refine (HPN.out _).mono ?_; rintro e X2 ⟨gp, rfl, hlo, hp, hb⟩)
        obtain ⟨lo, hlo2⟩ : ∃ lo, lo = X1.heap.size := ⟨_, rfl⟩
        have hlp : W.heap.size ≤ lo := by rw [hlo2]; exact HBX.out.size
        replace hlo : lo ≤ gp := by rw [hlo2]; exact hlo
        replace hp : PlanPkg.RefAt X2 lo gp [] 0 := by rw [hlo2]; exact hp
        have hgl := hp.lt
        have HP := Lib.hid hp
        have hd_n_p : gn < lo := by have := HN_n.out.lt; omega
        clear hlo2 hp
        replace hb : Below X1.heap.size X1 X2 := hb
        replace HN_n := Lib.hid (HN_n.out.of_block (hb.block _ HN_n.out.lt))
        replace HGX := Lib.hid (geo_keep HGX.out hb)
        replace HBX := Lib.hid (below_then HBX.out hb)
        refine hK.out _ _ ?_ (fun hHeld => ?_)
        · exact HGX.out
        clear hK K hb
        refine wpAnyH_ready (rs := [5, 7]) (by kernel_rfl) (by simp) ?_
        refine AllReadyH.cons rfl (fun K hK => ?_) (AllReadyH.cons rfl (fun K hK => ?_) AllReadyH.nil)
        · have hmk := HMI.out X2
          have hmk2 := HMI.out X2.drew
          go_simp
          clear hmk hmk2
          have hb : Below X2.heap.size X2 (X2.alloc (.cells (madeCells #[.int .i64 0] N) 3)) := (Below.refl _ _).alloc (Nat.le_refl _) _
          have hrow := World.rowIs_made X2 (.int .i64 0) N 3
          generalize X2.alloc (.cells (madeCells #[.int .i64 0] N) 3) = X3 at hb hrow ⊢
          obtain ⟨gw, hgw⟩ : ∃ g, g = X2.heap.size := ⟨_, rfl⟩
          rw [← hgw] at hrow ⊢
          have hlw : W.heap.size ≤ gw := by rw [hgw]; exact HBX.out.size
          have HN_w := Lib.hid hrow
          have hd_n_w : gn < gw := by have := HN_n.out.lt; omega
          have hd_p_w : gp < gw := by have := HP.out.lt; omega
          clear hgw hrow
          replace HN_n := Lib.hid (HN_n.out.of_block (hb.block _ HN_n.out.lt))
          replace HP := Lib.hid (HP.out.below hb hlo)
          replace HGX := Lib.hid (geo_keep HGX.out hb)
          replace HBX := Lib.hid (below_then HBX.out hb)
          refine hK.out _ _ ?_ (fun hHeld => ?_)
          · exact HGX.out
          clear hK K hb
          refine wpAnyH_ready (rs := [7]) (by kernel_rfl) (by simp) ?_
          refine AllReadyH.cons rfl (fun K hK => ?_) AllReadyH.nil
          · have hmk := HMB.out X3
            have hmk2 := HMB.out X3.drew
            go_simp
            clear hmk hmk2
            have hb : Below X3.heap.size X3 (X3.alloc (.cells (madeCells #[.bool false] N) 4)) := (Below.refl _ _).alloc (Nat.le_refl _) _
            have hrow := World.rowIs_made X3 (.bool false) N 4
            generalize X3.alloc (.cells (madeCells #[.bool false] N) 4) = X4 at hb hrow ⊢
            obtain ⟨gr, hgr⟩ : ∃ g, g = X3.heap.size := ⟨_, rfl⟩
            rw [← hgr] at hrow ⊢
            have hlr : W.heap.size ≤ gr := by rw [hgr]; exact HBX.out.size
            have HN_r := Lib.hid hrow
            have hd_n_r : gn < gr := by have := HN_n.out.lt; omega
            have hd_p_r : gp < gr := by have := HP.out.lt; omega
            have hd_w_r : gw < gr := by have := HN_w.out.lt; omega
            clear hgr hrow
            replace HN_n := Lib.hid (HN_n.out.of_block (hb.block _ HN_n.out.lt))
            replace HP := Lib.hid (HP.out.below hb hlo)
            replace HN_w := Lib.hid (HN_w.out.of_block (hb.block _ HN_w.out.lt))
            replace HGX := Lib.hid (geo_keep HGX.out hb)
            replace HBX := Lib.hid (below_then HBX.out hb)
            refine hK.out _ _ ?_ (fun hHeld => ?_)
            · exact HGX.out
            clear hK K hb
            refine Hand.held_take (i := 8) (d := 25) (v := ?_) rfl rfl (by kernel_rfl) (by kernel_rfl) (by kernel_rfl) (by rfl) ?_ (by assumption) (fun _ _ _ h => h) ?_
            rotate_left
            · intro w hSw
              go_simp
              with_reducible rfl
            try simp only [Act.put, List.setIfInBounds_toArray, List.set_cons_zero, List.set_cons_succ]
            refine wpAnyH_ready (rs := [9]) (by kernel_rfl) (by simp) ?_
            refine AllReadyH.cons rfl (fun K hK => ?_) AllReadyH.nil
            go_simp
            have hfin := ref_new (G := G) (HNN.out ▸ HN_n.out) (HNN.out ▸ HN_w.out) (HNN.out ▸ HN_r.out) HP.out hlo (by omega) (by omega) (by omega) (by omega) (by omega) (by omega)
            have HFIN := Lib.hid hfin
            refine hK.out _ _ ?_ (fun hHeld => ?_)
            · exact geo_keep HGX.out ((Below.refl _ _).alloc (Nat.le_refl _) _)
            clear hK K hfin
            refine Hand.held_take (i := 10) (d := 7) (v := ?_) rfl rfl (by kernel_rfl) (by kernel_rfl) (by kernel_rfl) (by rfl) ?_ (by assumption) (fun _ _ _ h => h) ?_
            rotate_left
            · intro w hSw
              go_simp
              with_reducible rfl
            try simp only [Act.put, List.setIfInBounds_toArray, List.set_cons_zero, List.set_cons_succ]
            refine wpAnyH_done (by kernel_rfl) ?_ _
            go_wp2_with fail
            go_meet
            refine ⟨⟨X4.heap.size, gn, gw, gr, lo, gp, .slice none 0 0, 0, kind0 X4.heap.size gn gw gr lo gp⟩, rfl, ?_, fun b hb => kind0_up (B := W.heap.size) HBX.out.size hln hlw hlr hlp hb, HBX.out.alloc HBX.out.size _, rfl⟩
            have h := HFIN.out
            simp only [headCells, ← HNN.out] at h
            exact h
        · have hmk := HMB.out X2
          have hmk2 := HMB.out X2.drew
          go_simp
          clear hmk hmk2
          have hb : Below X2.heap.size X2 (X2.alloc (.cells (madeCells #[.bool false] N) 4)) := (Below.refl _ _).alloc (Nat.le_refl _) _
          have hrow := World.rowIs_made X2 (.bool false) N 4
          generalize X2.alloc (.cells (madeCells #[.bool false] N) 4) = X3 at hb hrow ⊢
          obtain ⟨gr, hgr⟩ : ∃ g, g = X2.heap.size := ⟨_, rfl⟩
          rw [← hgr] at hrow ⊢
          have hlr : W.heap.size ≤ gr := by rw [hgr]; exact HBX.out.size
          have HN_r := Lib.hid hrow
          have hd_n_r : gn < gr := by have := HN_n.out.lt; omega
          have hd_p_r : gp < gr := by have := HP.out.lt; omega
          clear hgr hrow
          replace HN_n := Lib.hid (HN_n.out.of_block (hb.block _ HN_n.out.lt))
          replace HP := Lib.hid (HP.out.below hb hlo)
          replace HGX := Lib.hid (geo_keep HGX.out hb)
          replace HBX := Lib.hid (below_then HBX.out hb)
          refine hK.out _ _ ?_ (fun hHeld => ?_)
          · exact HGX.out
          clear hK K hb
          refine wpAnyH_ready (rs := [5]) (by kernel_rfl) (by simp) ?_
          refine AllReadyH.cons rfl (fun K hK => ?_) AllReadyH.nil
          · have hmk := HMI.out X3
            have hmk2 := HMI.out X3.drew
            go_simp
            clear hmk hmk2
            have hb : Below X3.heap.size X3 (X3.alloc (.cells (madeCells #[.int .i64 0] N) 3)) := (Below.refl _ _).alloc (Nat.le_refl _) _
            have hrow := World.rowIs_made X3 (.int .i64 0) N 3
            generalize X3.alloc (.cells (madeCells #[.int .i64 0] N) 3) = X4 at hb hrow ⊢
            obtain ⟨gw, hgw⟩ : ∃ g, g = X3.heap.size := ⟨_, rfl⟩
            rw [← hgw] at hrow ⊢
            have hlw : W.heap.size ≤ gw := by rw [hgw]; exact HBX.out.size
            have HN_w := Lib.hid hrow
            have hd_n_w : gn < gw := by have := HN_n.out.lt; omega
            have hd_p_w : gp < gw := by have := HP.out.lt; omega
            have hd_r_w : gr < gw := by have := HN_r.out.lt; omega
            clear hgw hrow
            replace HN_n := Lib.hid (HN_n.out.of_block (hb.block _ HN_n.out.lt))
            replace HP := Lib.hid (HP.out.below hb hlo)
            replace HN_r := Lib.hid (HN_r.out.of_block (hb.block _ HN_r.out.lt))
            replace HGX := Lib.hid (geo_keep HGX.out hb)
            replace HBX := Lib.hid (below_then HBX.out hb)
            refine hK.out _ _ ?_ (fun hHeld => ?_)
            · exact HGX.out
            clear hK K hb
            refine Hand.held_take (i := 8) (d := 25) (v := ?_) rfl rfl (by kernel_rfl) (by kernel_rfl) (by kernel_rfl) (by rfl) ?_ (by assumption) (fun _ _ _ h => h) ?_
            rotate_left
            · intro w hSw
              go_simp
              with_reducible rfl
            try simp only [Act.put, List.setIfInBounds_toArray, List.set_cons_zero, List.set_cons_succ]
            refine wpAnyH_ready (rs := [9]) (by kernel_rfl) (by simp) ?_
            refine AllReadyH.cons rfl (fun K hK => ?_) AllReadyH.nil
            go_simp
            have hfin := ref_new (G := G) (HNN.out ▸ HN_n.out) (HNN.out ▸ HN_w.out) (HNN.out ▸ HN_r.out) HP.out hlo (by omega) (by omega) (by omega) (by omega) (by omega) (by omega)
            have HFIN := Lib.hid hfin
            refine hK.out _ _ ?_ (fun hHeld => ?_)
            · exact geo_keep HGX.out ((Below.refl _ _).alloc (Nat.le_refl _) _)
            clear hK K hfin
            refine Hand.held_take (i := 10) (d := 7) (v := ?_) rfl rfl (by kernel_rfl) (by kernel_rfl) (by kernel_rfl) (by rfl) ?_ (by assumption) (fun _ _ _ h => h) ?_
            rotate_left
            · intro w hSw
              go_simp
              with_reducible rfl
            try simp only [Act.put, List.setIfInBounds_toArray, List.set_cons_zero, List.set_cons_succ]
            refine wpAnyH_done (by kernel_rfl) ?_ _
            go_wp2_with fail
            go_meet
            refine ⟨⟨X4.heap.size, gn, gw, gr, lo, gp, .slice none 0 0, 0, kind0 X4.heap.size gn gw gr lo gp⟩, rfl, ?_, fun b hb => kind0_up (B := W.heap.size) HBX.out.size hln hlw hlr hlp hb, HBX.out.alloc HBX.out.size _, rfl⟩
            have h := HFIN.out
            simp only [headCells, ← HNN.out] at h
            exact h
      · have hmk := HMI.out X1
        have hmk2 := HMI.out X1.drew
        go_simp
        clear hmk hmk2
        have hb : Below X1.heap.size X1 (X1.alloc (.cells (madeCells #[.int .i64 0] N) 3)) := (Below.refl _ _).alloc (Nat.le_refl _) _
        have hrow := World.rowIs_made X1 (.int .i64 0) N 3
        generalize X1.alloc (.cells (madeCells #[.int .i64 0] N) 3) = X2 at hb hrow ⊢
        obtain ⟨gw, hgw⟩ : ∃ g, g = X1.heap.size := ⟨_, rfl⟩
        rw [← hgw] at hrow ⊢
        have hlw : W.heap.size ≤ gw := by rw [hgw]; exact HBX.out.size
        have HN_w := Lib.hid hrow
        have hd_n_w : gn < gw := by have := HN_n.out.lt; omega
        clear hgw hrow
        replace HN_n := Lib.hid (HN_n.out.of_block (hb.block _ HN_n.out.lt))
        replace HGX := Lib.hid (geo_keep HGX.out hb)
        replace HBX := Lib.hid (below_then HBX.out hb)
        refine hK.out _ _ ?_ (fun hHeld => ?_)
        · exact HGX.out
        clear hK K hb
        refine wpAnyH_ready (rs := [1, 7]) (by kernel_rfl) (by simp) ?_
        refine AllReadyH.cons rfl (fun K hK => ?_) (AllReadyH.cons rfl (fun K hK => ?_) AllReadyH.nil)
        · go_simp
          go_wp2_with (go_at_call 42; refine (HPN.out _).mono ?_; rintro e X3 ⟨gp, rfl, hlo, hp, hb⟩)
          obtain ⟨lo, hlo2⟩ : ∃ lo, lo = X2.heap.size := ⟨_, rfl⟩
          have hlp : W.heap.size ≤ lo := by rw [hlo2]; exact HBX.out.size
          replace hlo : lo ≤ gp := by rw [hlo2]; exact hlo
          replace hp : PlanPkg.RefAt X3 lo gp [] 0 := by rw [hlo2]; exact hp
          have hgl := hp.lt
          have HP := Lib.hid hp
          have hd_n_p : gn < lo := by have := HN_n.out.lt; omega
          have hd_w_p : gw < lo := by have := HN_w.out.lt; omega
          clear hlo2 hp
          replace hb : Below X2.heap.size X2 X3 := hb
          replace HN_n := Lib.hid (HN_n.out.of_block (hb.block _ HN_n.out.lt))
          replace HN_w := Lib.hid (HN_w.out.of_block (hb.block _ HN_w.out.lt))
          replace HGX := Lib.hid (geo_keep HGX.out hb)
          replace HBX := Lib.hid (below_then HBX.out hb)
          refine hK.out _ _ ?_ (fun hHeld => ?_)
          · exact HGX.out
          clear hK K hb
          refine wpAnyH_ready (rs := [7]) (by kernel_rfl) (by simp) ?_
          refine AllReadyH.cons rfl (fun K hK => ?_) AllReadyH.nil
          · have hmk := HMB.out X3
            have hmk2 := HMB.out X3.drew
            go_simp
            clear hmk hmk2
            have hb : Below X3.heap.size X3 (X3.alloc (.cells (madeCells #[.bool false] N) 4)) := (Below.refl _ _).alloc (Nat.le_refl _) _
            have hrow := World.rowIs_made X3 (.bool false) N 4
            generalize X3.alloc (.cells (madeCells #[.bool false] N) 4) = X4 at hb hrow ⊢
            obtain ⟨gr, hgr⟩ : ∃ g, g = X3.heap.size := ⟨_, rfl⟩
            rw [← hgr] at hrow ⊢
            have hlr : W.heap.size ≤ gr := by rw [hgr]; exact HBX.out.size
            have HN_r := Lib.hid hrow
            have hd_n_r : gn < gr := by have := HN_n.out.lt; omega
            have hd_w_r : gw < gr := by have := HN_w.out.lt; omega
            have hd_p_r : gp < gr := by have := HP.out.lt; omega
            clear hgr hrow
            replace HN_n := Lib.hid (HN_n.out.of_block (hb.block _ HN_n.out.lt))
            replace HN_w := Lib.hid (HN_w.out.of_block (hb.block _ HN_w.out.lt))
            replace HP := Lib.hid (HP.out.below hb hlo)
            replace HGX := Lib.hid (geo_keep HGX.out hb)
            replace HBX := Lib.hid (below_then HBX.out hb)
            refine hK.out _ _ ?_ (fun hHeld => ?_)
            · exact HGX.out
            clear hK K hb
            refine Hand.held_take (i := 8) (d := 25) (v := ?_) rfl rfl (by kernel_rfl) (by kernel_rfl) (by kernel_rfl) (by rfl) ?_ (by assumption) (fun _ _ _ h => h) ?_
            rotate_left
            · intro w hSw
              go_simp
              with_reducible rfl
            try simp only [Act.put, List.setIfInBounds_toArray, List.set_cons_zero, List.set_cons_succ]
            refine wpAnyH_ready (rs := [9]) (by kernel_rfl) (by simp) ?_
            refine AllReadyH.cons rfl (fun K hK => ?_) AllReadyH.nil
            go_simp
            have hfin := ref_new (G := G) (HNN.out ▸ HN_n.out) (HNN.out ▸ HN_w.out) (HNN.out ▸ HN_r.out) HP.out hlo (by omega) (by omega) (by omega) (by omega) (by omega) (by omega)
            have HFIN := Lib.hid hfin
            refine hK.out _ _ ?_ (fun hHeld => ?_)
            · exact geo_keep HGX.out ((Below.refl _ _).alloc (Nat.le_refl _) _)
            clear hK K hfin
            refine Hand.held_take (i := 10) (d := 7) (v := ?_) rfl rfl (by kernel_rfl) (by kernel_rfl) (by kernel_rfl) (by rfl) ?_ (by assumption) (fun _ _ _ h => h) ?_
            rotate_left
            · intro w hSw
              go_simp
              with_reducible rfl
            try simp only [Act.put, List.setIfInBounds_toArray, List.set_cons_zero, List.set_cons_succ]
            refine wpAnyH_done (by kernel_rfl) ?_ _
            go_wp2_with fail
            go_meet
            refine ⟨⟨X4.heap.size, gn, gw, gr, lo, gp, .slice none 0 0, 0, kind0 X4.heap.size gn gw gr lo gp⟩, rfl, ?_, fun b hb => kind0_up (B := W.heap.size) HBX.out.size hln hlw hlr hlp hb, HBX.out.alloc HBX.out.size _, rfl⟩
            have h := HFIN.out
            simp only [headCells, ← HNN.out] at h
            exact h
        · have hmk := HMB.out X2
          have hmk2 := HMB.out X2.drew
          go_simp
          clear hmk hmk2
          have hb : Below X2.heap.size X2 (X2.alloc (.cells (madeCells #[.bool false] N) 4)) := (Below.refl _ _).alloc (Nat.le_refl _) _
          have hrow := World.rowIs_made X2 (.bool false) N 4
          generalize X2.alloc (.cells (madeCells #[.bool false] N) 4) = X3 at hb hrow ⊢
          obtain ⟨gr, hgr⟩ : ∃ g, g = X2.heap.size := ⟨_, rfl⟩
          rw [← hgr] at hrow ⊢
          have hlr : W.heap.size ≤ gr := by rw [hgr]; exact HBX.out.size
          have HN_r := Lib.hid hrow
          have hd_n_r : gn < gr := by have := HN_n.out.lt; omega
          have hd_w_r : gw < gr := by have := HN_w.out.lt; omega
          clear hgr hrow
          replace HN_n := Lib.hid (HN_n.out.of_block (hb.block _ HN_n.out.lt))
          replace HN_w := Lib.hid (HN_w.out.of_block (hb.block _ HN_w.out.lt))
          replace HGX := Lib.hid (geo_keep HGX.out hb)
          replace HBX := Lib.hid (below_then HBX.out hb)
          refine hK.out _ _ ?_ (fun hHeld => ?_)
          · exact HGX.out
          clear hK K hb
          refine wpAnyH_ready (rs := [1]) (by kernel_rfl) (by simp) ?_
          refine AllReadyH.cons rfl (fun K hK => ?_) AllReadyH.nil
          · go_simp
            go_wp2_with (go_at_call 42; refine (HPN.out _).mono ?_; rintro e X4 ⟨gp, rfl, hlo, hp, hb⟩)
            obtain ⟨lo, hlo2⟩ : ∃ lo, lo = X3.heap.size := ⟨_, rfl⟩
            have hlp : W.heap.size ≤ lo := by rw [hlo2]; exact HBX.out.size
            replace hlo : lo ≤ gp := by rw [hlo2]; exact hlo
            replace hp : PlanPkg.RefAt X4 lo gp [] 0 := by rw [hlo2]; exact hp
            have hgl := hp.lt
            have HP := Lib.hid hp
            have hd_n_p : gn < lo := by have := HN_n.out.lt; omega
            have hd_w_p : gw < lo := by have := HN_w.out.lt; omega
            have hd_r_p : gr < lo := by have := HN_r.out.lt; omega
            clear hlo2 hp
            replace hb : Below X3.heap.size X3 X4 := hb
            replace HN_n := Lib.hid (HN_n.out.of_block (hb.block _ HN_n.out.lt))
            replace HN_w := Lib.hid (HN_w.out.of_block (hb.block _ HN_w.out.lt))
            replace HN_r := Lib.hid (HN_r.out.of_block (hb.block _ HN_r.out.lt))
            replace HGX := Lib.hid (geo_keep HGX.out hb)
            replace HBX := Lib.hid (below_then HBX.out hb)
            refine hK.out _ _ ?_ (fun hHeld => ?_)
            · exact HGX.out
            clear hK K hb
            refine Hand.held_take (i := 8) (d := 25) (v := ?_) rfl rfl (by kernel_rfl) (by kernel_rfl) (by kernel_rfl) (by rfl) ?_ (by assumption) (fun _ _ _ h => h) ?_
            rotate_left
            · intro w hSw
              go_simp
              with_reducible rfl
            try simp only [Act.put, List.setIfInBounds_toArray, List.set_cons_zero, List.set_cons_succ]
            refine wpAnyH_ready (rs := [9]) (by kernel_rfl) (by simp) ?_
            refine AllReadyH.cons rfl (fun K hK => ?_) AllReadyH.nil
            go_simp
            have hfin := ref_new (G := G) (HNN.out ▸ HN_n.out) (HNN.out ▸ HN_w.out) (HNN.out ▸ HN_r.out) HP.out hlo (by omega) (by omega) (by omega) (by omega) (by omega) (by omega)
            have HFIN := Lib.hid hfin
            refine hK.out _ _ ?_ (fun hHeld => ?_)
            · exact geo_keep HGX.out ((Below.refl _ _).alloc (Nat.le_refl _) _)
            clear hK K hfin
            refine Hand.held_take (i := 10) (d := 7) (v := ?_) rfl rfl (by kernel_rfl) (by kernel_rfl) (by kernel_rfl) (by rfl) ?_ (by assumption) (fun _ _ _ h => h) ?_
            rotate_left
            · intro w hSw
              go_simp
              with_reducible rfl
            try simp only [Act.put, List.setIfInBounds_toArray, List.set_cons_zero, List.set_cons_succ]
            refine wpAnyH_done (by kernel_rfl) ?_ _
            go_wp2_with fail
            go_meet
            refine ⟨⟨X4.heap.size, gn, gw, gr, lo, gp, .slice none 0 0, 0, kind0 X4.heap.size gn gw gr lo gp⟩, rfl, ?_, fun b hb => kind0_up (B := W.heap.size) HBX.out.size hln hlw hlr hlp hb, HBX.out.alloc HBX.out.size _, rfl⟩
            have h := HFIN.out
            simp only [headCells, ← HNN.out] at h
            exact h
      · have hmk := HMB.out X1
        have hmk2 := HMB.out X1.drew
        go_simp
        clear hmk hmk2
        have hb : Below X1.heap.size X1 (X1.alloc (.cells (madeCells #[.bool false] N) 4)) := (Below.refl _ _).alloc (Nat.le_refl _) _
        have hrow := World.rowIs_made X1 (.bool false) N 4
        generalize X1.alloc (.cells (madeCells #[.bool false] N) 4) = X2 at hb hrow ⊢
        obtain ⟨gr, hgr⟩ : ∃ g, g = X1.heap.size := ⟨_, rfl⟩
        rw [← hgr] at hrow ⊢
        have hlr : W.heap.size ≤ gr := by rw [hgr]; exact HBX.out.size
        have HN_r := Lib.hid hrow
        have hd_n_r : gn < gr := by have := HN_n.out.lt; omega
        clear hgr hrow
        replace HN_n := Lib.hid (HN_n.out.of_block (hb.block _ HN_n.out.lt))
        replace HGX := Lib.hid (geo_keep HGX.out hb)
        replace HBX := Lib.hid (below_then HBX.out hb)
        refine hK.out _ _ ?_ (fun hHeld => ?_)
        · exact HGX.out
        clear hK K hb
        refine wpAnyH_ready (rs := [1, 5]) (by kernel_rfl) (by simp) ?_
        refine AllReadyH.cons rfl (fun K hK => ?_) (AllReadyH.cons rfl (fun K hK => ?_) AllReadyH.nil)
        · go_simp
          go_wp2_with (go_at_call 42; refine (HPN.out _).mono ?_; rintro e X3 ⟨gp, rfl, hlo, hp, hb⟩)
          obtain ⟨lo, hlo2⟩ : ∃ lo, lo = X2.heap.size := ⟨_, rfl⟩
          have hlp : W.heap.size ≤ lo := by rw [hlo2]; exact HBX.out.size
          replace hlo : lo ≤ gp := by rw [hlo2]; exact hlo
          replace hp : PlanPkg.RefAt X3 lo gp [] 0 := by rw [hlo2]; exact hp
          have hgl := hp.lt
          have HP := Lib.hid hp
          have hd_n_p : gn < lo := by have := HN_n.out.lt; omega
          have hd_r_p : gr < lo := by have := HN_r.out.lt; omega
          clear hlo2 hp
          replace hb : Below X2.heap.size X2 X3 := hb
          replace HN_n := Lib.hid (HN_n.out.of_block (hb.block _ HN_n.out.lt))
          replace HN_r := Lib.hid (HN_r.out.of_block (hb.block _ HN_r.out.lt))
          replace HGX := Lib.hid (geo_keep HGX.out hb)
          replace HBX := Lib.hid (below_then HBX.out hb)
          refine hK.out _ _ ?_ (fun hHeld => ?_)
          · exact HGX.out
          clear hK K hb
          refine wpAnyH_ready (rs := [5]) (by kernel_rfl) (by simp) ?_
          refine AllReadyH.cons rfl (fun K hK => ?_) AllReadyH.nil
          · have hmk := HMI.out X3
            have hmk2 := HMI.out X3.drew
            go_simp
            clear hmk hmk2
            have hb : Below X3.heap.size X3 (X3.alloc (.cells (madeCells #[.int .i64 0] N) 3)) := (Below.refl _ _).alloc (Nat.le_refl _) _
            have hrow := World.rowIs_made X3 (.int .i64 0) N 3
            generalize X3.alloc (.cells (madeCells #[.int .i64 0] N) 3) = X4 at hb hrow ⊢
            obtain ⟨gw, hgw⟩ : ∃ g, g = X3.heap.size := ⟨_, rfl⟩
            rw [← hgw] at hrow ⊢
            have hlw : W.heap.size ≤ gw := by rw [hgw]; exact HBX.out.size
            have HN_w := Lib.hid hrow
            have hd_n_w : gn < gw := by have := HN_n.out.lt; omega
            have hd_r_w : gr < gw := by have := HN_r.out.lt; omega
            have hd_p_w : gp < gw := by have := HP.out.lt; omega
            clear hgw hrow
            replace HN_n := Lib.hid (HN_n.out.of_block (hb.block _ HN_n.out.lt))
            replace HN_r := Lib.hid (HN_r.out.of_block (hb.block _ HN_r.out.lt))
            replace HP := Lib.hid (HP.out.below hb hlo)
            replace HGX := Lib.hid (geo_keep HGX.out hb)
            replace HBX := Lib.hid (below_then HBX.out hb)
            refine hK.out _ _ ?_ (fun hHeld => ?_)
            · exact HGX.out
            clear hK K hb
            refine Hand.held_take (i := 8) (d := 25) (v := ?_) rfl rfl (by kernel_rfl) (by kernel_rfl) (by kernel_rfl) (by rfl) ?_ (by assumption) (fun _ _ _ h => h) ?_
            rotate_left
            · intro w hSw
              go_simp
              with_reducible rfl
            try simp only [Act.put, List.setIfInBounds_toArray, List.set_cons_zero, List.set_cons_succ]
            refine wpAnyH_ready (rs := [9]) (by kernel_rfl) (by simp) ?_
            refine AllReadyH.cons rfl (fun K hK => ?_) AllReadyH.nil
            go_simp
            have hfin := ref_new (G := G) (HNN.out ▸ HN_n.out) (HNN.out ▸ HN_w.out) (HNN.out ▸ HN_r.out) HP.out hlo (by omega) (by omega) (by omega) (by omega) (by omega) (by omega)
            have HFIN := Lib.hid hfin
            refine hK.out _ _ ?_ (fun hHeld => ?_)
            · exact geo_keep HGX.out ((Below.refl _ _).alloc (Nat.le_refl _) _)
            clear hK K hfin
            refine Hand.held_take (i := 10) (d := 7) (v := ?_) rfl rfl (by kernel_rfl) (by kernel_rfl) (by kernel_rfl) (by rfl) ?_ (by assumption) (fun _ _ _ h => h) ?_
            rotate_left
            · intro w hSw
              go_simp
              with_reducible rfl
            try simp only [Act.put, List.setIfInBounds_toArray, List.set_cons_zero, List.set_cons_succ]
            refine wpAnyH_done (by kernel_rfl) ?_ _
            go_wp2_with fail
            go_meet
            refine ⟨⟨X4.heap.size, gn, gw, gr, lo, gp, .slice none 0 0, 0, kind0 X4.heap.size gn gw gr lo gp⟩, rfl, ?_, fun b hb => kind0_up (B := W.heap.size) HBX.out.size hln hlw hlr hlp hb, HBX.out.alloc HBX.out.size _, rfl⟩
            have h := HFIN.out
            simp only [headCells, ← HNN.out] at h
            exact h
        · have hmk := HMI.out X2
          have hmk2 := HMI.out X2.drew
          go_simp
          clear hmk hmk2
          have hb : Below X2.heap.size X2 (X2.alloc (.cells (madeCells #[.int .i64 0] N) 3)) := (Below.refl _ _).alloc (Nat.le_refl _) _
          have hrow := World.rowIs_made X2 (.int .i64 0) N 3
          generalize X2.alloc (.cells (madeCells #[.int .i64 0] N) 3) = X3 at hb hrow ⊢
          obtain ⟨gw, hgw⟩ : ∃ g, g = X2.heap.size := ⟨_, rfl⟩
          rw [← hgw] at hrow ⊢
          have hlw : W.heap.size ≤ gw := by rw [hgw]; exact HBX.out.size
          have HN_w := Lib.hid hrow
          have hd_n_w : gn < gw := by have := HN_n.out.lt; omega
          have hd_r_w : gr < gw := by have := HN_r.out.lt; omega
          clear hgw hrow
          replace HN_n := Lib.hid (HN_n.out.of_block (hb.block _ HN_n.out.lt))
          replace HN_r := Lib.hid (HN_r.out.of_block (hb.block _ HN_r.out.lt))
          replace HGX := Lib.hid (geo_keep HGX.out hb)
          replace HBX := Lib.hid (below_then HBX.out hb)
          refine hK.out _ _ ?_ (fun hHeld => ?_)
          · exact HGX.out
          clear hK K hb
          refine wpAnyH_ready (rs := [1]) (by kernel_rfl) (by simp) ?_
          refine AllReadyH.cons rfl (fun K hK => ?_) AllReadyH.nil
          · go_simp
            go_wp2_with (go_at_call 42; refine (HPN.out _).mono ?_; rintro e X4 ⟨gp, rfl, hlo, hp, hb⟩)
            obtain ⟨lo, hlo2⟩ : ∃ lo, lo = X3.heap.size := ⟨_, rfl⟩
            have hlp : W.heap.size ≤ lo := by rw [hlo2]; exact HBX.out.size
            replace hlo : lo ≤ gp := by rw [hlo2]; exact hlo
            replace hp : PlanPkg.RefAt X4 lo gp [] 0 := by rw [hlo2]; exact hp
            have hgl := hp.lt
            have HP := Lib.hid hp
            have hd_n_p : gn < lo := by have := HN_n.out.lt; omega
            have hd_r_p : gr < lo := by have := HN_r.out.lt; omega
            have hd_w_p : gw < lo := by have := HN_w.out.lt; omega
            clear hlo2 hp
            replace hb : Below X3.heap.size X3 X4 := hb
            replace HN_n := Lib.hid (HN_n.out.of_block (hb.block _ HN_n.out.lt))
            replace HN_r := Lib.hid (HN_r.out.of_block (hb.block _ HN_r.out.lt))
            replace HN_w := Lib.hid (HN_w.out.of_block (hb.block _ HN_w.out.lt))
            replace HGX := Lib.hid (geo_keep HGX.out hb)
            replace HBX := Lib.hid (below_then HBX.out hb)
            refine hK.out _ _ ?_ (fun hHeld => ?_)
            · exact HGX.out
            clear hK K hb
            refine Hand.held_take (i := 8) (d := 25) (v := ?_) rfl rfl (by kernel_rfl) (by kernel_rfl) (by kernel_rfl) (by rfl) ?_ (by assumption) (fun _ _ _ h => h) ?_
            rotate_left
            · intro w hSw
              go_simp
              with_reducible rfl
            try simp only [Act.put, List.setIfInBounds_toArray, List.set_cons_zero, List.set_cons_succ]
            refine wpAnyH_ready (rs := [9]) (by kernel_rfl) (by simp) ?_
            refine AllReadyH.cons rfl (fun K hK => ?_) AllReadyH.nil
            go_simp
            have hfin := ref_new (G := G) (HNN.out ▸ HN_n.out) (HNN.out ▸ HN_w.out) (HNN.out ▸ HN_r.out) HP.out hlo (by omega) (by omega) (by omega) (by omega) (by omega) (by omega)
            have HFIN := Lib.hid hfin
            refine hK.out _ _ ?_ (fun hHeld => ?_)
            · exact geo_keep HGX.out ((Below.refl _ _).alloc (Nat.le_refl _) _)
            clear hK K hfin
            refine Hand.held_take (i := 10) (d := 7) (v := ?_) rfl rfl (by kernel_rfl) (by kernel_rfl) (by kernel_rfl) (by rfl) ?_ (by assumption) (fun _ _ _ h => h) ?_
            rotate_left
            · intro w hSw
              go_simp
              with_reducible rfl
            try simp only [Act.put, List.setIfInBounds_toArray, List.set_cons_zero, List.set_cons_succ]
            refine wpAnyH_done (by kernel_rfl) ?_ _
            go_wp2_with fail
            go_meet
            refine ⟨⟨X4.heap.size, gn, gw, gr, lo, gp, .slice none 0 0, 0, kind0 X4.heap.size gn gw gr lo gp⟩, rfl, ?_, fun b hb => kind0_up (B := W.heap.size) HBX.out.size hln hlw hlr hlp hb, HBX.out.alloc HBX.out.size _, rfl⟩
            have h := HFIN.out
            simp only [headCells, ← HNN.out] at h
            exact h
    · have hmk := HMI.out X0
      have hmk2 := HMI.out X0.drew
      go_simp
      clear hmk hmk2
      have hb : Below X0.heap.size X0 (X0.alloc (.cells (madeCells #[.int .i64 0] N) 3)) := (Below.refl _ _).alloc (Nat.le_refl _) _
      have hrow := World.rowIs_made X0 (.int .i64 0) N 3
      generalize X0.alloc (.cells (madeCells #[.int .i64 0] N) 3) = X1 at hb hrow ⊢
      obtain ⟨gw, hgw⟩ : ∃ g, g = X0.heap.size := ⟨_, rfl⟩
      rw [← hgw] at hrow ⊢
      have hlw : W.heap.size ≤ gw := by rw [hgw]; exact HBX.out.size
      have HN_w := Lib.hid hrow
      clear hgw hrow
      replace HGX := Lib.hid (geo_keep HGX.out hb)
      replace HBX := Lib.hid (below_then HBX.out hb)
      refine hK.out _ _ ?_ (fun hHeld => ?_)
      · exact HGX.out
      clear hK K hb
      refine wpAnyH_ready (rs := [1, 3, 7]) (by kernel_rfl) (by simp) ?_
      refine AllReadyH.cons rfl (fun K hK => ?_) (AllReadyH.cons rfl (fun K hK => ?_) (AllReadyH.cons rfl (fun K hK => ?_) AllReadyH.nil))
      · go_simp
        go_wp2_with (go_at_call 42; refine (HPN.out _).mono ?_; rintro e X2 ⟨gp, rfl, hlo, hp, hb⟩)
        obtain ⟨lo, hlo2⟩ : ∃ lo, lo = X1.heap.size := ⟨_, rfl⟩
        have hlp : W.heap.size ≤ lo := by rw [hlo2]; exact HBX.out.size
        replace hlo : lo ≤ gp := by rw [hlo2]; exact hlo
        replace hp : PlanPkg.RefAt X2 lo gp [] 0 := by rw [hlo2]; exact hp
        have hgl := hp.lt
        have HP := Lib.hid hp
        have hd_w_p : gw < lo := by have := HN_w.out.lt; omega
        clear hlo2 hp
        replace hb : Below X1.heap.size X1 X2 := hb
        replace HN_w := Lib.hid (HN_w.out.of_block (hb.block _ HN_w.out.lt))
        replace HGX := Lib.hid (geo_keep HGX.out hb)
        replace HBX := Lib.hid (below_then HBX.out hb)
        refine hK.out _ _ ?_ (fun hHeld => ?_)
        · exact HGX.out
        clear hK K hb
        refine wpAnyH_ready (rs := [3, 7]) (by kernel_rfl) (by simp) ?_
        refine AllReadyH.cons rfl (fun K hK => ?_) (AllReadyH.cons rfl (fun K hK => ?_) AllReadyH.nil)
        · have hmk := HMI.out X2
          have hmk2 := HMI.out X2.drew
          go_simp
          clear hmk hmk2
          have hb : Below X2.heap.size X2 (X2.alloc (.cells (madeCells #[.int .i64 0] N) 3)) := (Below.refl _ _).alloc (Nat.le_refl _) _
          have hrow := World.rowIs_made X2 (.int .i64 0) N 3
          generalize X2.alloc (.cells (madeCells #[.int .i64 0] N) 3) = X3 at hb hrow ⊢
          obtain ⟨gn, hgn⟩ : ∃ g, g = X2.heap.size := ⟨_, rfl⟩
          rw [← hgn] at hrow ⊢
          have hln : W.heap.size ≤ gn := by rw [hgn]; exact HBX.out.size
          have HN_n := Lib.hid hrow
          have hd_w_n : gw < gn := by have := HN_w.out.lt; omega
          have hd_p_n : gp < gn := by have := HP.out.lt; omega
          clear hgn hrow
          replace HN_w := Lib.hid (HN_w.out.of_block (hb.block _ HN_w.out.lt))
          replace HP := Lib.hid (HP.out.below hb hlo)
          replace HGX := Lib.hid (geo_keep HGX.out hb)
          replace HBX := Lib.hid (below_then HBX.out hb)
          refine hK.out _ _ ?_ (fun hHeld => ?_)
          · exact HGX.out
          clear hK K hb
          refine wpAnyH_ready (rs := [7]) (by kernel_rfl) (by simp) ?_
          refine AllReadyH.cons rfl (fun K hK => ?_) AllReadyH.nil
          · have hmk := HMB.out X3
            have hmk2 := HMB.out X3.drew
            go_simp
            clear hmk hmk2
            have hb : Below X3.heap.size X3 (X3.alloc (.cells (madeCells #[.bool false] N) 4)) := (Below.refl _ _).alloc (Nat.le_refl _) _
            have hrow := World.rowIs_made X3 (.bool false) N 4
            generalize X3.alloc (.cells (madeCells #[.bool false] N) 4) = X4 at hb hrow ⊢
            obtain ⟨gr, hgr⟩ : ∃ g, g = X3.heap.size := ⟨_, rfl⟩
            rw [← hgr] at hrow ⊢
            have hlr : W.heap.size ≤ gr := by rw [hgr]; exact HBX.out.size
            have HN_r := Lib.hid hrow
            have hd_w_r : gw < gr := by have := HN_w.out.lt; omega
            have hd_p_r : gp < gr := by have := HP.out.lt; omega
            have hd_n_r : gn < gr := by have := HN_n.out.lt; omega
            clear hgr hrow
            replace HN_w := Lib.hid (HN_w.out.of_block (hb.block _ HN_w.out.lt))
            replace HP := Lib.hid (HP.out.below hb hlo)
            replace HN_n := Lib.hid (HN_n.out.of_block (hb.block _ HN_n.out.lt))
            replace HGX := Lib.hid (geo_keep HGX.out hb)
            replace HBX := Lib.hid (below_then HBX.out hb)
            refine hK.out _ _ ?_ (fun hHeld => ?_)
            · exact HGX.out
            clear hK K hb
            refine Hand.held_take (i := 8) (d := 25) (v := ?_) rfl rfl (by kernel_rfl) (by kernel_rfl) (by kernel_rfl) (by rfl) ?_ (by assumption) (fun _ _ _ h => h) ?_
            rotate_left
            · intro w hSw
              go_simp
              with_reducible rfl
            try simp only [Act.put, List.setIfInBounds_toArray, List.set_cons_zero, List.set_cons_succ]
            refine wpAnyH_ready (rs := [9]) (by kernel_rfl) (by simp) ?_
            refine AllReadyH.cons rfl (fun K hK => ?_) AllReadyH.nil
            go_simp
            have hfin := ref_new (G := G) (HNN.out ▸ HN_n.out) (HNN.out ▸ HN_w.out) (HNN.out ▸ HN_r.out) HP.out hlo (by omega) (by omega) (by omega) (by omega) (by omega) (by omega)
            have HFIN := Lib.hid hfin
            refine hK.out _ _ ?_ (fun hHeld => ?_)
            · exact geo_keep HGX.out ((Below.refl _ _).alloc (Nat.le_refl _) _)
            clear hK K hfin
            refine Hand.held_take (i := 10) (d := 7) (v := ?_) rfl rfl (by kernel_rfl) (by kernel_rfl) (by kernel_rfl) (by rfl) ?_ (by assumption) (fun _ _ _ h => h) ?_
            rotate_left
            · intro w hSw
              go_simp
              with_reducible rfl
            try simp only [Act.put, List.setIfInBounds_toArray, List.set_cons_zero, List.set_cons_succ]
            refine wpAnyH_done (by kernel_rfl) ?_ _
            go_wp2_with fail
            go_meet
            refine ⟨⟨X4.heap.size, gn, gw, gr, lo, gp, .slice none 0 0, 0, kind0 X4.heap.size gn gw gr lo gp⟩, rfl, ?_, fun b hb => kind0_up (B := W.heap.size) HBX.out.size hln hlw hlr hlp hb, HBX.out.alloc HBX.out.size _, rfl⟩
            have h := HFIN.out
            simp only [headCells, ← HNN.out] at h
            exact h
        · have hmk := HMB.out X2
          have hmk2 := HMB.out X2.drew
          go_simp
          clear hmk hmk2
          have hb : Below X2.heap.size X2 (X2.alloc (.cells (madeCells #[.bool false] N) 4)) := (Below.refl _ _).alloc (Nat.le_refl _) _
          have hrow := World.rowIs_made X2 (.bool false) N 4
          generalize X2.alloc (.cells (madeCells #[.bool false] N) 4) = X3 at hb hrow ⊢
          obtain ⟨gr, hgr⟩ : ∃ g, g = X2.heap.size := ⟨_, rfl⟩
          rw [← hgr] at hrow ⊢
          have hlr : W.heap.size ≤ gr := by rw [hgr]; exact HBX.out.size
          have HN_r := Lib.hid hrow
          have hd_w_r : gw < gr := by have := HN_w.out.lt; omega
          have hd_p_r : gp < gr := by have := HP.out.lt; omega
          clear hgr hrow
          replace HN_w := Lib.hid (HN_w.out.of_block (hb.block _ HN_w.out.lt))
          replace HP := Lib.hid (HP.out.below hb hlo)
          replace HGX := Lib.hid (geo_keep HGX.out hb)
          replace HBX := Lib.hid (below_then HBX.out hb)
          refine hK.out _ _ ?_ (fun hHeld => ?_)
          · exact HGX.out
          clear hK K hb
          refine wpAnyH_ready (rs := [3]) (by kernel_rfl) (by simp) ?_
          refine AllReadyH.cons rfl (fun K hK => ?_) AllReadyH.nil
          · have hmk := HMI.out X3
            have hmk2 := HMI.out X3.drew
            go_simp
            clear hmk hmk2
            have hb : Below X3.heap.size X3 (X3.alloc (.cells (madeCells #[.int .i64 0] N) 3)) := (Below.refl _ _).alloc (Nat.le_refl _) _
            have hrow := World.rowIs_made X3 (.int .i64 0) N 3
            generalize X3.alloc (.cells (madeCells #[.int .i64 0] N) 3) = X4 at hb hrow ⊢
            obtain ⟨gn, hgn⟩ : ∃ g, g = X3.heap.size := ⟨_, rfl⟩
            rw [← hgn] at hrow ⊢
            have hln : W.heap.size ≤ gn := by rw [hgn]; exact HBX.out.size
            have HN_n := Lib.hid hrow
            have hd_w_n : gw < gn := by have := HN_w.out.lt; omega
            have hd_p_n : gp < gn := by have := HP.out.lt; omega
            have hd_r_n : gr < gn := by have := HN_r.out.lt; omega
            clear hgn hrow
            replace HN_w := Lib.hid (HN_w.out.of_block (hb.block _ HN_w.out.lt))
            replace HP := Lib.hid (HP.out.below hb hlo)
            replace HN_r := Lib.hid (HN_r.out.of_block (hb.block _ HN_r.out.lt))
            replace HGX := Lib.hid (geo_keep HGX.out hb)
            replace HBX := Lib.hid (below_then HBX.out hb)
            refine hK.out _ _ ?_ (fun hHeld => ?_)
            · exact HGX.out
            clear hK K hb
            refine Hand.held_take (i := 8) (d := 25) (v := ?_) rfl rfl (by kernel_rfl) (by kernel_rfl) (by kernel_rfl) (by rfl) ?_ (by assumption) (fun _ _ _ h => h) ?_
            rotate_left
            · intro w hSw
              go_simp
              with_reducible rfl
            try simp only [Act.put, List.setIfInBounds_toArray, List.set_cons_zero, List.set_cons_succ]
            refine wpAnyH_ready (rs := [9]) (by kernel_rfl) (by simp) ?_
            refine AllReadyH.cons rfl (fun K hK => ?_) AllReadyH.nil
            go_simp
            have hfin := ref_new (G := G) (HNN.out ▸ HN_n.out) (HNN.out ▸ HN_w.out) (HNN.out ▸ HN_r.out) HP.out hlo (by omega) (by omega) (by omega) (by omega) (by omega) (by omega)
            have HFIN := Lib.hid hfin
            refine hK.out _ _ ?_ (fun hHeld => ?_)
            · exact geo_keep HGX.out ((Below.refl _ _).alloc (Nat.le_refl _) _)
            clear hK K hfin
            refine Hand.held_take (i := 10) (d := 7) (v := ?_) rfl rfl (by kernel_rfl) (by kernel_rfl) (by kernel_rfl) (by rfl) ?_ (by assumption) (fun _ _ _ h => h) ?_
            rotate_left
            · intro w hSw
              go_simp
              with_reducible rfl
            try simp only [Act.put, List.setIfInBounds_toArray, List.set_cons_zero, List.set_cons_succ]
            refine wpAnyH_done (by kernel_rfl) ?_ _
            go_wp2_with fail
            go_meet
            refine ⟨⟨X4.heap.size, gn, gw, gr, lo, gp, .slice none 0 0, 0, kind0 X4.heap.size gn gw gr lo gp⟩, rfl, ?_, fun b hb => kind0_up (B := W.heap.size) HBX.out.size hln hlw hlr hlp hb, HBX.out.alloc HBX.out.size _, rfl⟩
            have h := HFIN.out
            simp only [headCells, ← HNN.out] at h
            exact h
      · have hmk := HMI.out X1
        have hmk2 := HMI.out X1.drew
        go_simp
        clear hmk hmk2
        have hb : Below X1.heap.size X1 (X1.alloc (.cells (madeCells #[.int .i64 0] N) 3)) := (Below.refl _ _).alloc (Nat.le_refl _) _
        have hrow := World.rowIs_made X1 (.int .i64 0) N 3
        generalize X1.alloc (.cells (madeCells #[.int .i64 0] N) 3) = X2 at hb hrow ⊢
        obtain ⟨gn, hgn⟩ : ∃ g, g = X1.heap.size := ⟨_, rfl⟩
        rw [← hgn] at hrow ⊢
        have hln : W.heap.size ≤ gn := by rw [hgn]; exact HBX.out.size
        have HN_n := Lib.hid hrow
        have hd_w_n : gw < gn := by have := HN_w.out.lt; omega
        clear hgn hrow
        replace HN_w := Lib.hid (HN_w.out.of_block (hb.block _ HN_w.out.lt))
        replace HGX := Lib.hid (geo_keep HGX.out hb)
        replace HBX := Lib.hid (below_then HBX.out hb)
        refine hK.out _ _ ?_ (fun hHeld => ?_)
        · exact HGX.out
        clear hK K hb
        refine wpAnyH_ready (rs := [1, 7]) (by kernel_rfl) (by simp) ?_
        refine AllReadyH.cons rfl (fun K hK => ?_) (AllReadyH.cons rfl (fun K hK => ?_) AllReadyH.nil)
        · go_simp
          go_wp2_with (go_at_call 42; refine (HPN.out _).mono ?_; rintro e X3 ⟨gp, rfl, hlo, hp, hb⟩)
          obtain ⟨lo, hlo2⟩ : ∃ lo, lo = X2.heap.size := ⟨_, rfl⟩
          have hlp : W.heap.size ≤ lo := by rw [hlo2]; exact HBX.out.size
          replace hlo : lo ≤ gp := by rw [hlo2]; exact hlo
          replace hp : PlanPkg.RefAt X3 lo gp [] 0 := by rw [hlo2]; exact hp
          have hgl := hp.lt
          have HP := Lib.hid hp
          have hd_w_p : gw < lo := by have := HN_w.out.lt; omega
          have hd_n_p : gn < lo := by have := HN_n.out.lt; omega
          clear hlo2 hp
          replace hb : Below X2.heap.size X2 X3 := hb
          replace HN_w := Lib.hid (HN_w.out.of_block (hb.block _ HN_w.out.lt))
          replace HN_n := Lib.hid (HN_n.out.of_block (hb.block _ HN_n.out.lt))
          replace HGX := Lib.hid (geo_keep HGX.out hb)
          replace HBX := Lib.hid (below_then HBX.out hb)
          refine hK.out _ _ ?_ (fun hHeld => ?_)
          · exact HGX.out
          clear hK K hb
          refine wpAnyH_ready (rs := [7]) (by kernel_rfl) (by simp) ?_
          refine AllReadyH.cons rfl (fun K hK => ?_) AllReadyH.nil
          · have hmk := HMB.out X3
            have hmk2 := HMB.out X3.drew
            go_simp
            clear hmk hmk2
            have hb : Below X3.heap.size X3 (X3.alloc (.cells (madeCells #[.bool false] N) 4)) := (Below.refl _ _).alloc (Nat.le_refl _) _
            have hrow := World.rowIs_made X3 (.bool false) N 4
            generalize X3.alloc (.cells (madeCells #[.bool false] N) 4) = X4 at hb hrow ⊢
            obtain ⟨gr, hgr⟩ : ∃ g, g = X3.heap.size := ⟨_, rfl⟩
            rw [← hgr] at hrow ⊢
            have hlr : W.heap.size ≤ gr := by rw [hgr]; exact HBX.out.size
            have HN_r := Lib.hid hrow
            have hd_w_r : gw < gr := by have := HN_w.out.lt; omega
            have hd_n_r : gn < gr := by have := HN_n.out.lt; omega
            have hd_p_r : gp < gr := by have := HP.out.lt; omega
            clear hgr hrow
            replace HN_w := Lib.hid (HN_w.out.of_block (hb.block _ HN_w.out.lt))
            replace HN_n := Lib.hid (HN_n.out.of_block (hb.block _ HN_n.out.lt))
            replace HP := Lib.hid (HP.out.below hb hlo)
            replace HGX := Lib.hid (geo_keep HGX.out hb)
            replace HBX := Lib.hid (below_then HBX.out hb)
            refine hK.out _ _ ?_ (fun hHeld => ?_)
            · exact HGX.out
            clear hK K hb
            refine Hand.held_take (i := 8) (d := 25) (v := ?_) rfl rfl (by kernel_rfl) (by kernel_rfl) (by kernel_rfl) (by rfl) ?_ (by assumption) (fun _ _ _ h => h) ?_
            rotate_left
            · intro w hSw
              go_simp
              with_reducible rfl
            try simp only [Act.put, List.setIfInBounds_toArray, List.set_cons_zero, List.set_cons_succ]
            refine wpAnyH_ready (rs := [9]) (by kernel_rfl) (by simp) ?_
            refine AllReadyH.cons rfl (fun K hK => ?_) AllReadyH.nil
            go_simp
            have hfin := ref_new (G := G) (HNN.out ▸ HN_n.out) (HNN.out ▸ HN_w.out) (HNN.out ▸ HN_r.out) HP.out hlo (by omega) (by omega) (by omega) (by omega) (by omega) (by omega)
            have HFIN := Lib.hid hfin
            refine hK.out _ _ ?_ (fun hHeld => ?_)
            · exact geo_keep HGX.out ((Below.refl _ _).alloc (Nat.le_refl _) _)
            clear hK K hfin
            refine Hand.held_take (i := 10) (d := 7) (v := ?_) rfl rfl (by kernel_rfl) (by kernel_rfl) (by kernel_rfl) (by rfl) ?_ (by assumption) (fun _ _ _ h => h) ?_
            rotate_left
            · intro w hSw
              go_simp
              with_reducible rfl
            try simp only [Act.put, List.setIfInBounds_toArray, List.set_cons_zero, List.set_cons_succ]
            refine wpAnyH_done (by kernel_rfl) ?_ _
            go_wp2_with fail
            go_meet
            refine ⟨⟨X4.heap.size, gn, gw, gr, lo, gp, .slice none 0 0, 0, kind0 X4.heap.size gn gw gr lo gp⟩, rfl, ?_, fun b hb => kind0_up (B := W.heap.size) HBX.out.size hln hlw hlr hlp hb, HBX.out.alloc HBX.out.size _, rfl⟩
            have h := HFIN.out
            simp only [headCells, ← HNN.out] at h
            exact h
        · have hmk := HMB.out X2
          have hmk2 := HMB.out X2.drew
          go_simp
          clear hmk hmk2
          have hb : Below X2.heap.size X2 (X2.alloc (.cells (madeCells #[.bool false] N) 4)) := (Below.refl _ _).alloc (Nat.le_refl _) _
          have hrow := World.rowIs_made X2 (.bool false) N 4
          generalize X2.alloc (.cells (madeCells #[.bool false] N) 4) = X3 at hb hrow ⊢
          obtain ⟨gr, hgr⟩ : ∃ g, g = X2.heap.size := ⟨_, rfl⟩
          rw [← hgr] at hrow ⊢
          have hlr : W.heap.size ≤ gr := by rw [hgr]; exact HBX.out.size
          have HN_r := Lib.hid hrow
          have hd_w_r : gw < gr := by have := HN_w.out.lt; omega
          have hd_n_r : gn < gr := by have := HN_n.out.lt; omega
          clear hgr hrow
          replace HN_w := Lib.hid (HN_w.out.of_block (hb.block _ HN_w.out.lt))
          replace HN_n := Lib.hid (HN_n.out.of_block (hb.block _ HN_n.out.lt))
          replace HGX := Lib.hid (geo_keep HGX.out hb)
          replace HBX := Lib.hid (below_then HBX.out hb)
          refine hK.out _ _ ?_ (fun hHeld => ?_)
          · exact HGX.out
          clear hK K hb
          refine wpAnyH_ready (rs := [1]) (by kernel_rfl) (by simp) ?_
          refine AllReadyH.cons rfl (fun K hK => ?_) AllReadyH.nil
          · go_simp
            go_wp2_with (go_at_call 42; refine (HPN.out _).mono ?_; rintro e X4 ⟨gp, rfl, hlo, hp, hb⟩)
            obtain ⟨lo, hlo2⟩ : ∃ lo, lo = X3.heap.size := ⟨_, rfl⟩
            have hlp : W.heap.size ≤ lo := by rw [hlo2]; exact HBX.out.size
            replace hlo : lo ≤ gp := by rw [hlo2]; exact hlo
            replace hp : PlanPkg.RefAt X4 lo gp [] 0 := by rw [hlo2]; exact hp
            have hgl := hp.lt
            have HP := Lib.hid hp
            have hd_w_p : gw < lo := by have := HN_w.out.lt; omega
            have hd_n_p : gn < lo := by have := HN_n.out.lt; omega
            have hd_r_p : gr < lo := by have := HN_r.out.lt; omega
            clear hlo2 hp
            replace hb : Below X3.heap.size X3 X4 := hb
            replace HN_w := Lib.hid (HN_w.out.of_block (hb.block _ HN_w.out.lt))
            replace HN_n := Lib.hid (HN_n.out.of_block (hb.block _ HN_n.out.lt))
            replace HN_r := Lib.hid (HN_r.out.of_block (hb.block _ HN_r.out.lt))
            replace HGX := Lib.hid (geo_keep HGX.out hb)
            replace HBX := Lib.hid (below_then HBX.out hb)
            refine hK.out _ _ ?_ (fun hHeld => ?_)
            · exact HGX.out
            clear hK K hb
            refine Hand.held_take (i := 8) (d := 25) (v := ?_) rfl rfl (by kernel_rfl) (by kernel_rfl) (by kernel_rfl) (by rfl) ?_ (by assumption) (fun _ _ _ h => h) ?_
            rotate_left
            · intro w hSw
              go_simp
              with_reducible rfl
            try simp only [Act.put, List.setIfInBounds_toArray, List.set_cons_zero, List.set_cons_succ]
            refine wpAnyH_ready (rs := [9]) (by kernel_rfl) (by simp) ?_
            refine AllReadyH.cons rfl (fun K hK => ?_) AllReadyH.nil
            go_simp
            have hfin := ref_new (G := G) (HNN.out ▸ HN_n.out) (HNN.out ▸ HN_w.out) (HNN.out ▸ HN_r.out) HP.out hlo (by omega) (by omega) (by omega) (by omega) (by omega) (by omega)
            have HFIN := Lib.hid hfin
            refine hK.out _ _ ?_ (fun hHeld => ?_)
            · exact geo_keep HGX.out ((Below.refl _ _).alloc (Nat.le_refl _) _)
            clear hK K hfin
            refine Hand.held_take (i := 10) (d := 7) (v := ?_) rfl rfl (by kernel_rfl) (by kernel_rfl) (by kernel_rfl) (by rfl) ?_ (by assumption) (fun _ _ _ h => h) ?_
            rotate_left
            · intro w hSw
              go_simp
              with_reducible rfl
            try simp only [Act.put, List.setIfInBounds_toArray, List.set_cons_zero, List.set_cons_succ]
            refine wpAnyH_done (by kernel_rfl) ?_ _
            go_wp2_with fail
            go_meet
            refine ⟨⟨X4.heap.size, gn, gw, gr, lo, gp, .slice none 0 0, 0, kind0 X4.heap.size gn gw gr lo gp⟩, rfl, ?_, fun b hb => kind0_up (B := W.heap.size) HBX.out.size hln hlw hlr hlp hb, HBX.out.alloc HBX.out.size _, rfl⟩
            have h := HFIN.out
            simp only [headCells, ← HNN.out] at h
            exact h
      · have hmk := HMB.out X1
        have hmk2 := HMB.out X1.drew
        go_simp
        clear hmk hmk2
        have hb : Below X1.heap.size X1 (X1.alloc (.cells (madeCells #[.bool false] N) 4)) := (Below.refl _ _).alloc (Nat.le_refl _) _
        have hrow := World.rowIs_made X1 (.bool false) N 4
        generalize X1.alloc (.cells (madeCells #[.bool false] N) 4) = X2 at hb hrow ⊢
        obtain ⟨gr, hgr⟩ : ∃ g, g = X1.heap.size := ⟨_, rfl⟩
        rw [← hgr] at hrow ⊢
        have hlr : W.heap.size ≤ gr := by rw [hgr]; exact HBX.out.size
        have HN_r := Lib.hid hrow
        have hd_w_r : gw < gr := by have := HN_w.out.lt; omega
        clear hgr hrow
        replace HN_w := Lib.hid (HN_w.out.of_block (hb.block _ HN_w.out.lt))
        replace HGX := Lib.hid (geo_keep HGX.out hb)
        replace HBX := Lib.hid (below_then HBX.out hb)
        refine hK.out _ _ ?_ (fun hHeld => ?_)
        · exact HGX.out
        clear hK K hb
        refine wpAnyH_ready (rs := [1, 3]) (by kernel_rfl) (by simp) ?_
        refine AllReadyH.cons rfl (fun K hK => ?_) (AllReadyH.cons rfl (fun K hK => ?_) AllReadyH.nil)
        · go_simp
          go_wp2_with (go_at_call 42; refine (HPN.out _).mono ?_; rintro e X3 ⟨gp, rfl, hlo, hp, hb⟩)
          obtain ⟨lo, hlo2⟩ : ∃ lo, lo = X2.heap.size := ⟨_, rfl⟩
          have hlp : W.heap.size ≤ lo := by rw [hlo2]; exact HBX.out.size
          replace hlo : lo ≤ gp := by rw [hlo2]; exact hlo
          replace hp : PlanPkg.RefAt X3 lo gp [] 0 := by rw [hlo2]; exact hp
          have hgl := hp.lt
          have HP := Lib.hid hp
          have hd_w_p : gw < lo := by have := HN_w.out.lt; omega
          have hd_r_p : gr < lo := by have := HN_r.out.lt; omega
          clear hlo2 hp
          replace hb : Below X2.heap.size X2 X3 := hb
          replace HN_w := Lib.hid (HN_w.out.of_block (hb.block _ HN_w.out.lt))
          replace HN_r := Lib.hid (HN_r.out.of_block (hb.block _ HN_r.out.lt))
          replace HGX := Lib.hid (geo_keep HGX.out hb)
          replace HBX := Lib.hid (below_then HBX.out hb)
          refine hK.out _ _ ?_ (fun hHeld => ?_)
          · exact HGX.out
          clear hK K hb
          refine wpAnyH_ready (rs := [3]) (by kernel_rfl) (by simp) ?_
          refine AllReadyH.cons rfl (fun K hK => ?_) AllReadyH.nil
          · have hmk := HMI.out X3
            have hmk2 := HMI.out X3.drew
            go_simp
            clear hmk hmk2
            have hb : Below X3.heap.size X3 (X3.alloc (.cells (madeCells #[.int .i64 0] N) 3)) := (Below.refl _ _).alloc (Nat.le_refl _) _
            have hrow := World.rowIs_made X3 (.int .i64 0) N 3
            generalize X3.alloc (.cells (madeCells #[.int .i64 0] N) 3) = X4 at hb hrow ⊢
            obtain ⟨gn, hgn⟩ : ∃ g, g = X3.heap.size := ⟨_, rfl⟩
            rw [← hgn] at hrow ⊢
            have hln : W.heap.size ≤ gn := by rw [hgn]; exact HBX.out.size
            have HN_n := Lib.hid hrow
            have hd_w_n : gw < gn := by have := HN_w.out.lt; omega
            have hd_r_n : gr < gn := by have := HN_r.out.lt; omega
            have hd_p_n : gp < gn := by have := HP.out.lt; omega
            clear hgn hrow
            replace HN_w := Lib.hid (HN_w.out.of_block (hb.block _ HN_w.out.lt))
            replace HN_r := Lib.hid (HN_r.out.of_block (hb.block _ HN_r.out.lt))
            replace HP := Lib.hid (HP.out.below hb hlo)
            replace HGX := Lib.hid (geo_keep HGX.out hb)
            replace HBX := Lib.hid (below_then HBX.out hb)
            refine hK.out _ _ ?_ (fun hHeld => ?_)
            · exact HGX.out
            clear hK K hb
            refine Hand.held_take (i := 8) (d := 25) (v := ?_) rfl rfl (by kernel_rfl) (by kernel_rfl) (by kernel_rfl) (by rfl) ?_ (by assumption) (fun _ _ _ h => h) ?_
            rotate_left
            · intro w hSw
              go_simp
              with_reducible rfl
            try simp only [Act.put, List.setIfInBounds_toArray, List.set_cons_zero, List.set_cons_succ]
            refine wpAnyH_ready (rs := [9]) (by kernel_rfl) (by simp) ?_
            refine AllReadyH.cons rfl (fun K hK => ?_) AllReadyH.nil
            go_simp
            have hfin := ref_new (G := G) (HNN.out ▸ HN_n.out) (HNN.out ▸ HN_w.out) (HNN.out ▸ HN_r.out) HP.out hlo (by omega) (by omega) (by omega) (by omega) (by omega) (by omega)
            have HFIN := Lib.hid hfin
            refine hK.out _ _ ?_ (fun hHeld => ?_)
            · exact geo_keep HGX.out ((Below.refl _ _).alloc (Nat.le_refl _) _)
            clear hK K hfin
            refine Hand.held_take (i := 10) (d := 7) (v := ?_) rfl rfl (by kernel_rfl) (by kernel_rfl) (by kernel_rfl) (by rfl) ?_ (by assumption) (fun _ _ _ h => h) ?_
            rotate_left
            · intro w hSw
              go_simp
              with_reducible rfl
            try simp only [Act.put, List.setIfInBounds_toArray, List.set_cons_zero, List.set_cons_succ]
            refine wpAnyH_done (by kernel_rfl) ?_ _
            go_wp2_with fail
            go_meet
            refine ⟨⟨X4.heap.size, gn, gw, gr, lo, gp, .slice none 0 0, 0, kind0 X4.heap.size gn gw gr lo gp⟩, rfl, ?_, fun b hb => kind0_up (B := W.heap.size) HBX.out.size hln hlw hlr hlp hb, HBX.out.alloc HBX.out.size _, rfl⟩
            have h := HFIN.out
            simp only [headCells, ← HNN.out] at h
            exact h
        · have hmk := HMI.out X2
          have hmk2 := HMI.out X2.drew
          go_simp
          clear hmk hmk2
          have hb : Below X2.heap.size X2 (X2.alloc (.cells (madeCells #[.int .i64 0] N) 3)) := (Below.refl _ _).alloc (Nat.le_refl _) _
          have hrow := World.rowIs_made X2 (.int .i64 0) N 3
          generalize X2.alloc (.cells (madeCells #[.int .i64 0] N) 3) = X3 at hb hrow ⊢
          obtain ⟨gn, hgn⟩ : ∃ g, g = X2.heap.size := ⟨_, rfl⟩
          rw [← hgn] at hrow ⊢
          have hln : W.heap.size ≤ gn := by rw [hgn]; exact HBX.out.size
          have HN_n := Lib.hid hrow
          have hd_w_n : gw < gn := by have := HN_w.out.lt; omega
          have hd_r_n : gr < gn := by have := HN_r.out.lt; omega
          clear hgn hrow
          replace HN_w := Lib.hid (HN_w.out.of_block (hb.block _ HN_w.out.lt))
          replace HN_r := Lib.hid (HN_r.out.of_block (hb.block _ HN_r.out.lt))
          replace HGX := Lib.hid (geo_keep HGX.out hb)
          replace HBX := Lib.hid (below_then HBX.out hb)
          refine hK.out _ _ ?_ (fun hHeld => ?_)
          · exact HGX.out
          clear hK K hb
          refine wpAnyH_ready (rs := [1]) (by kernel_rfl) (by simp) ?_
          refine AllReadyH.cons rfl (fun K hK => ?_) AllReadyH.nil
          · go_simp
            go_wp2_with (go_at_call 42; refine (HPN.out _).mono ?_; rintro e X4 ⟨gp, rfl, hlo, hp, hb⟩)
            obtain ⟨lo, hlo2⟩ : ∃ lo, lo = X3.heap.size := ⟨_, rfl⟩
            have hlp : W.heap.size ≤ lo := by rw [hlo2]; exact HBX.out.size
            replace hlo : lo ≤ gp := by rw [hlo2]; exact hlo
            replace hp : PlanPkg.RefAt X4 lo gp [] 0 := by rw [hlo2]; exact hp
            have hgl := hp.lt
            have HP := Lib.hid hp
            have hd_w_p : gw < lo := by have := HN_w.out.lt; omega
            have hd_r_p : gr < lo := by have := HN_r.out.lt; omega
            have hd_n_p : gn < lo := by have := HN_n.out.lt; omega
            clear hlo2 hp
            replace hb : Below X3.heap.size X3 X4 := hb
            replace HN_w := Lib.hid (HN_w.out.of_block (hb.block _ HN_w.out.lt))
            replace HN_r := Lib.hid (HN_r.out.of_block (hb.block _ HN_r.out.lt))
            replace HN_n := Lib.hid (HN_n.out.of_block (hb.block _ HN_n.out.lt))
            replace HGX := Lib.hid (geo_keep HGX.out hb)
            replace HBX := Lib.hid (below_then HBX.out hb)
            refine hK.out _ _ ?_ (fun hHeld => ?_)
            · exact HGX.out
            clear hK K hb
            refine Hand.held_take (i := 8) (d := 25) (v := ?_) rfl rfl (by kernel_rfl) (by kernel_rfl) (by kernel_rfl) (by rfl) ?_ (by assumption) (fun _ _ _ h => h) ?_
            rotate_left
            · intro w hSw
              go_simp
              with_reducible rfl
            try simp only [Act.put, List.setIfInBounds_toArray, List.set_cons_zero, List.set_cons_succ]
            refine wpAnyH_ready (rs := [9]) (by kernel_rfl) (by simp) ?_
            refine AllReadyH.cons rfl (fun K hK => ?_) AllReadyH.nil
            go_simp
            have hfin := ref_new (G := G) (HNN.out ▸ HN_n.out) (HNN.out ▸ HN_w.out) (HNN.out ▸ HN_r.out) HP.out hlo (by omega) (by omega) (by omega) (by omega) (by omega) (by omega)
            have HFIN := Lib.hid hfin
            refine hK.out _ _ ?_ (fun hHeld => ?_)
            · exact geo_keep HGX.out ((Below.refl _ _).alloc (Nat.le_refl _) _)
            clear hK K hfin
            refine Hand.held_take (i := 10) (d := 7) (v := ?_) rfl rfl (by kernel_rfl) (by kernel_rfl) (by kernel_rfl) (by rfl) ?_ (by assumption) (fun _ _ _ h => h) ?_
            rotate_left
            · intro w hSw
              go_simp
              with_reducible rfl
            try simp only [Act.put, List.setIfInBounds_toArray, List.set_cons_zero, List.set_cons_succ]
            refine wpAnyH_done (by kernel_rfl) ?_ _
            go_wp2_with fail
            go_meet
            refine ⟨⟨X4.heap.size, gn, gw, gr, lo, gp, .slice none 0 0, 0, kind0 X4.heap.size gn gw gr lo gp⟩, rfl, ?_, fun b hb => kind0_up (B := W.heap.size) HBX.out.size hln hlw hlr hlp hb, HBX.out.alloc HBX.out.size _, rfl⟩
            have h := HFIN.out
            simp only [headCells, ← HNN.out] at h
            exact h
    · have hmk := HMB.out X0
      have hmk2 := HMB.out X0.drew
      go_simp
      clear hmk hmk2
      have hb : Below X0.heap.size X0 (X0.alloc (.cells (madeCells #[.bool false] N) 4)) := (Below.refl _ _).alloc (Nat.le_refl _) _
      have hrow := World.rowIs_made X0 (.bool false) N 4
      generalize X0.alloc (.cells (madeCells #[.bool false] N) 4) = X1 at hb hrow ⊢
      obtain ⟨gr, hgr⟩ : ∃ g, g = X0.heap.size := ⟨_, rfl⟩
      rw [← hgr] at hrow ⊢
      have hlr : W.heap.size ≤ gr := by rw [hgr]; exact HBX.out.size
      have HN_r := Lib.hid hrow
      clear hgr hrow
      replace HGX := Lib.hid (geo_keep HGX.out hb)
      replace HBX := Lib.hid (below_then HBX.out hb)
      refine hK.out _ _ ?_ (fun hHeld => ?_)
      · exact HGX.out
      clear hK K hb
      refine wpAnyH_ready (rs := [1, 3, 5]) (by kernel_rfl) (by simp) ?_
      refine AllReadyH.cons rfl (fun K hK => ?_) (AllReadyH.cons rfl (fun K hK => ?_) (AllReadyH.cons rfl (fun K hK => ?_) AllReadyH.nil))
      · go_simp
        go_wp2_with (go_at_call 42; refine (HPN.out _).mono ?_; rintro e X2 ⟨gp, rfl, hlo, hp, hb⟩)
        obtain ⟨lo, hlo2⟩ : ∃ lo, lo = X1.heap.size := ⟨_, rfl⟩
        have hlp : W.heap.size ≤ lo := by rw [hlo2]; exact HBX.out.size
        replace hlo : lo ≤ gp := by rw [hlo2]; exact hlo
        replace hp : PlanPkg.RefAt X2 lo gp [] 0 := by rw [hlo2]; exact hp
        have hgl := hp.lt
        have HP := Lib.hid hp
        have hd_r_p : gr < lo := by have := HN_r.out.lt; omega
        clear hlo2 hp
        replace hb : Below X1.heap.size X1 X2 := hb
        replace HN_r := Lib.hid (HN_r.out.of_block (hb.block _ HN_r.out.lt))
        replace HGX := Lib.hid (geo_keep HGX.out hb)
        replace HBX := Lib.hid (below_then HBX.out hb)
        refine hK.out _ _ ?_ (fun hHeld => ?_)
        · exact HGX.out
        clear hK K hb
        refine wpAnyH_ready (rs := [3, 5]) (by kernel_rfl) (by simp) ?_
        refine AllReadyH.cons rfl (fun K hK => ?_) (AllReadyH.cons rfl (fun K hK => ?_) AllReadyH.nil)
        · have hmk := HMI.out X2
          have hmk2 := HMI.out X2.drew
          go_simp
          clear hmk hmk2
          have hb : Below X2.heap.size X2 (X2.alloc (.cells (madeCells #[.int .i64 0] N) 3)) := (Below.refl _ _).alloc (Nat.le_refl _) _
          have hrow := World.rowIs_made X2 (.int .i64 0) N 3
          generalize X2.alloc (.cells (madeCells #[.int .i64 0] N) 3) = X3 at hb hrow ⊢
          obtain ⟨gn, hgn⟩ : ∃ g, g = X2.heap.size := ⟨_, rfl⟩
          rw [← hgn] at hrow ⊢
          have hln : W.heap.size ≤ gn := by rw [hgn]; exact HBX.out.size
          have HN_n := Lib.hid hrow
          have hd_r_n : gr < gn := by have := HN_r.out.lt; omega
          have hd_p_n : gp < gn := by have := HP.out.lt; omega
          clear hgn hrow
          replace HN_r := Lib.hid (HN_r.out.of_block (hb.block _ HN_r.out.lt))
          replace HP := Lib.hid (HP.out.below hb hlo)
          replace HGX := Lib.hid (geo_keep HGX.out hb)
          replace HBX := Lib.hid (below_then HBX.out hb)
          refine hK.out _ _ ?_ (fun hHeld => ?_)
          · exact HGX.out
          clear hK K hb
          refine wpAnyH_ready (rs := [5]) (by kernel_rfl) (by simp) ?_
          refine AllReadyH.cons rfl (fun K hK => ?_) AllReadyH.nil
          · have hmk := HMI.out X3
            have hmk2 := HMI.out X3.drew
            go_simp
            clear hmk hmk2
            have hb : Below X3.heap.size X3 (X3.alloc (.cells (madeCells #[.int .i64 0] N) 3)) := (Below.refl _ _).alloc (Nat.le_refl _) _
            have hrow := World.rowIs_made X3 (.int .i64 0) N 3
            generalize X3.alloc (.cells (madeCells #[.int .i64 0] N) 3) = X4 at hb hrow ⊢
            obtain ⟨gw, hgw⟩ : ∃ g, g = X3.heap.size := ⟨_, rfl⟩
            rw [← hgw] at hrow ⊢
            have hlw : W.heap.size ≤ gw := by rw [hgw]; exact HBX.out.size
            have HN_w := Lib.hid hrow
            have hd_r_w : gr < gw := by have := HN_r.out.lt; omega
            have hd_p_w : gp < gw := by have := HP.out.lt; omega
            have hd_n_w : gn < gw := by have := HN_n.out.lt; omega
            clear hgw hrow
            replace HN_r := Lib.hid (HN_r.out.of_block (hb.block _ HN_r.out.lt))
            replace HP := Lib.hid (HP.out.below hb hlo)
            replace HN_n := Lib.hid (HN_n.out.of_block (hb.block _ HN_n.out.lt))
            replace HGX := Lib.hid (geo_keep HGX.out hb)
            replace HBX := Lib.hid (below_then HBX.out hb)
            refine hK.out _ _ ?_ (fun hHeld => ?_)
            · exact HGX.out
            clear hK K hb
            refine Hand.held_take (i := 8) (d := 25) (v := ?_) rfl rfl (by kernel_rfl) (by kernel_rfl) (by kernel_rfl) (by rfl) ?_ (by assumption) (fun _ _ _ h => h) ?_
            rotate_left
            · intro w hSw
              go_simp
              with_reducible rfl
            try simp only [Act.put, List.setIfInBounds_toArray, List.set_cons_zero, List.set_cons_succ]
            refine wpAnyH_ready (rs := [9]) (by kernel_rfl) (by simp) ?_
            refine AllReadyH.cons rfl (fun K hK => ?_) AllReadyH.nil
            go_simp
            have hfin := ref_new (G := G) (HNN.out ▸ HN_n.out) (HNN.out ▸ HN_w.out) (HNN.out ▸ HN_r.out) HP.out hlo (by omega) (by omega) (by omega) (by omega) (by omega) (by omega)
            have HFIN := Lib.hid hfin
            refine hK.out _ _ ?_ (fun hHeld => ?_)
            · exact geo_keep HGX.out ((Below.refl _ _).alloc (Nat.le_refl _) _)
            clear hK K hfin
            refine Hand.held_take (i := 10) (d := 7) (v := ?_) rfl rfl (by kernel_rfl) (by kernel_rfl) (by kernel_rfl) (by rfl) ?_ (by assumption) (fun _ _ _ h => h) ?_
            rotate_left
            · intro w hSw
              go_simp
              with_reducible rfl
            try simp only [Act.put, List.setIfInBounds_toArray, List.set_cons_zero, List.set_cons_succ]
            refine wpAnyH_done (by kernel_rfl) ?_ _
            go_wp2_with fail
            go_meet
            refine ⟨⟨X4.heap.size, gn, gw, gr, lo, gp, .slice none 0 0, 0, kind0 X4.heap.size gn gw gr lo gp⟩, rfl, ?_, fun b hb => kind0_up (B := W.heap.size) HBX.out.size hln hlw hlr hlp hb, HBX.out.alloc HBX.out.size _, rfl⟩
            have h := HFIN.out
            simp only [headCells, ← HNN.out] at h
            exact h
        · have hmk := HMI.out X2
          have hmk2 := HMI.out X2.drew
          go_simp
          clear hmk hmk2
          have hb : Below X2.heap.size X2 (X2.alloc (.cells (madeCells #[.int .i64 0] N) 3)) := (Below.refl _ _).alloc (Nat.le_refl _) _
          have hrow := World.rowIs_made X2 (.int .i64 0) N 3
          generalize X2.alloc (.cells (madeCells #[.int .i64 0] N) 3) = X3 at hb hrow ⊢
          obtain ⟨gw, hgw⟩ : ∃ g, g = X2.heap.size := ⟨_, rfl⟩
          rw [← hgw] at hrow ⊢
          have hlw : W.heap.size ≤ gw := by rw [hgw]; exact HBX.out.size
          have HN_w := Lib.hid hrow
          have hd_r_w : gr < gw := by have := HN_r.out.lt; omega
          have hd_p_w : gp < gw := by have := HP.out.lt; omega
          clear hgw hrow
          replace HN_r := Lib.hid (HN_r.out.of_block (hb.block _ HN_r.out.lt))
          replace HP := Lib.hid (HP.out.below hb hlo)
          replace HGX := Lib.hid (geo_keep HGX.out hb)
          replace HBX := Lib.hid (below_then HBX.out hb)
          refine hK.out _ _ ?_ (fun hHeld => ?_)
          · exact HGX.out
          clear hK K hb
          refine wpAnyH_ready (rs := [3]) (by kernel_rfl) (by simp) ?_
          refine AllReadyH.cons rfl (fun K hK => ?_) AllReadyH.nil
          · have hmk := HMI.out X3
            have hmk2 := HMI.out X3.drew
            go_simp
            clear hmk hmk2
            have hb : Below X3.heap.size X3 (X3.alloc (.cells (madeCells #[.int .i64 0] N) 3)) := (Below.refl _ _).alloc (Nat.le_refl _) _
            have hrow := World.rowIs_made X3 (.int .i64 0) N 3
            generalize X3.alloc (.cells (madeCells #[.int .i64 0] N) 3) = X4 at hb hrow ⊢
            obtain ⟨gn, hgn⟩ : ∃ g, g = X3.heap.size := ⟨_, rfl⟩
            rw [← hgn] at hrow ⊢
            have hln : W.heap.size ≤ gn := by rw [hgn]; exact HBX.out.size
            have HN_n := Lib.hid hrow
            have hd_r_n : gr < gn := by have := HN_r.out.lt; omega
            have hd_p_n : gp < gn := by have := HP.out.lt; omega
            have hd_w_n : gw < gn := by have := HN_w.out.lt; omega
            clear hgn hrow
            replace HN_r := Lib.hid (HN_r.out.of_block (hb.block _ HN_r.out.lt))
            replace HP := Lib.hid (HP.out.below hb hlo)
            replace HN_w := Lib.hid (HN_w.out.of_block (hb.block _ HN_w.out.lt))
            replace HGX := Lib.hid (geo_keep HGX.out hb)
            replace HBX := Lib.hid (below_then HBX.out hb)
            refine hK.out _ _ ?_ (fun hHeld => ?_)
            · exact HGX.out
            clear hK K hb
            refine Hand.held_take (i := 8) (d := 25) (v := ?_) rfl rfl (by kernel_rfl) (by kernel_rfl) (by kernel_rfl) (by rfl) ?_ (by assumption) (fun _ _ _ h => h) ?_
            rotate_left
            · intro w hSw
              go_simp
              with_reducible rfl
            try simp only [Act.put, List.setIfInBounds_toArray, List.set_cons_zero, List.set_cons_succ]
            refine wpAnyH_ready (rs := [9]) (by kernel_rfl) (by simp) ?_
            refine AllReadyH.cons rfl (fun K hK => ?_) AllReadyH.nil
            go_simp
            have hfin := ref_new (G := G) (HNN.out ▸ HN_n.out) (HNN.out ▸ HN_w.out) (HNN.out ▸ HN_r.out) HP.out hlo (by omega) (by omega) (by omega) (by omega) (by omega) (by omega)
            have HFIN := Lib.hid hfin
            refine hK.out _ _ ?_ (fun hHeld => ?_)
            · exact geo_keep HGX.out ((Below.refl _ _).alloc (Nat.le_refl _) _)
            clear hK K hfin
            refine Hand.held_take (i := 10) (d := 7) (v := ?_) rfl rfl (by kernel_rfl) (by kernel_rfl) (by kernel_rfl) (by rfl) ?_ (by assumption) (fun _ _ _ h => h) ?_
            rotate_left
            · intro w hSw
              go_simp
              with_reducible rfl
            try simp only [Act.put, List.setIfInBounds_toArray, List.set_cons_zero, List.set_cons_succ]
            refine wpAnyH_done (by kernel_rfl) ?_ _
            go_wp2_with fail
            go_meet
            refine ⟨⟨X4.heap.size, gn, gw, gr, lo, gp, .slice none 0 0, 0, kind0 X4.heap.size gn gw gr lo gp⟩, rfl, ?_, fun b hb => kind0_up (B := W.heap.size) HBX.out.size hln hlw hlr hlp hb, HBX.out.alloc HBX.out.size _, rfl⟩
            have h := HFIN.out
            simp only [headCells, ← HNN.out] at h
            exact h
      · have hmk := HMI.out X1
        have hmk2 := HMI.out X1.drew
        go_simp
        clear hmk hmk2
        have hb : Below X1.heap.size X1 (X1.alloc (.cells (madeCells #[.int .i64 0] N) 3)) := (Below.refl _ _).alloc (Nat.le_refl _) _
        have hrow := World.rowIs_made X1 (.int .i64 0) N 3
        generalize X1.alloc (.cells (madeCells #[.int .i64 0] N) 3) = X2 at hb hrow ⊢
        obtain ⟨gn, hgn⟩ : ∃ g, g = X1.heap.size := ⟨_, rfl⟩
        rw [← hgn] at hrow ⊢
        have hln : W.heap.size ≤ gn := by rw [hgn]; exact HBX.out.size
        have HN_n := Lib.hid hrow
        have hd_r_n : gr < gn := by have := HN_r.out.lt; omega
        clear hgn hrow
        replace HN_r := Lib.hid (HN_r.out.of_block (hb.block _ HN_r.out.lt))
        replace HGX := Lib.hid (geo_keep HGX.out hb)
        replace HBX := Lib.hid (below_then HBX.out hb)
        refine hK.out _ _ ?_ (fun hHeld => ?_)
        · exact HGX.out
        clear hK K hb
        refine wpAnyH_ready (rs := [1, 5]) (by kernel_rfl) (by simp) ?_
        refine AllReadyH.cons rfl (fun K hK => ?_) (AllReadyH.cons rfl (fun K hK => ?_) AllReadyH.nil)
        · go_simp
          go_wp2_with (go_at_call 42; refine (HPN.out _).mono ?_; rintro e X3 ⟨gp, rfl, hlo, hp, hb⟩)
          obtain ⟨lo, hlo2⟩ : ∃ lo, lo = X2.heap.size := ⟨_, rfl⟩
          have hlp : W.heap.size ≤ lo := by rw [hlo2]; exact HBX.out.size
          replace hlo : lo ≤ gp := by rw [hlo2]; exact hlo
          replace hp : PlanPkg.RefAt X3 lo gp [] 0 := by rw [hlo2]; exact hp
          have hgl := hp.lt
          have HP := Lib.hid hp
          have hd_r_p : gr < lo := by have := HN_r.out.lt; omega
          have hd_n_p : gn < lo := by have := HN_n.out.lt; omega
          clear hlo2 hp
          replace hb : Below X2.heap.size X2 X3 := hb
          replace HN_r := Lib.hid (HN_r.out.of_block (hb.block _ HN_r.out.lt))
          replace HN_n := Lib.hid (HN_n.out.of_block (hb.block _ HN_n.out.lt))
          replace HGX := Lib.hid (geo_keep HGX.out hb)
          replace HBX := Lib.hid (below_then HBX.out hb)
          refine hK.out _ _ ?_ (fun hHeld => ?_)
          · exact HGX.out
          clear hK K hb
          refine wpAnyH_ready (rs := [5]) (by kernel_rfl) (by simp) ?_
          refine AllReadyH.cons rfl (fun K hK => ?_) AllReadyH.nil
          · have hmk := HMI.out X3
            have hmk2 := HMI.out X3.drew
            go_simp
            clear hmk hmk2
            have hb : Below X3.heap.size X3 (X3.alloc (.cells (madeCells #[.int .i64 0] N) 3)) := (Below.refl _ _).alloc (Nat.le_refl _) _
            have hrow := World.rowIs_made X3 (.int .i64 0) N 3
            generalize X3.alloc (.cells (madeCells #[.int .i64 0] N) 3) = X4 at hb hrow ⊢
            obtain ⟨gw, hgw⟩ : ∃ g, g = X3.heap.size := ⟨_, rfl⟩
            rw [← hgw] at hrow ⊢
            have hlw : W.heap.size ≤ gw := by rw [hgw]; exact HBX.out.size
            have HN_w := Lib.hid hrow
            have hd_r_w : gr < gw := by have := HN_r.out.lt; omega
            have hd_n_w : gn < gw := by have := HN_n.out.lt; omega
            have hd_p_w : gp < gw := by have := HP.out.lt; omega
            clear hgw hrow
            replace HN_r := Lib.hid (HN_r.out.of_block (hb.block _ HN_r.out.lt))
            replace HN_n := Lib.hid (HN_n.out.of_block (hb.block _ HN_n.out.lt))
            replace HP := Lib.hid (HP.out.below hb hlo)
            replace HGX := Lib.hid (geo_keep HGX.out hb)
            replace HBX := Lib.hid (below_then HBX.out hb)
            refine hK.out _ _ ?_ (fun hHeld => ?_)
            · exact HGX.out
            clear hK K hb
            refine Hand.held_take (i := 8) (d := 25) (v := ?_) rfl rfl (by kernel_rfl) (by kernel_rfl) (by kernel_rfl) (by rfl) ?_ (by assumption) (fun _ _ _ h => h) ?_
            rotate_left
            · intro w hSw
              go_simp
              with_reducible rfl
            try simp only [Act.put, List.setIfInBounds_toArray, List.set_cons_zero, List.set_cons_succ]
            refine wpAnyH_ready (rs := [9]) (by kernel_rfl) (by simp) ?_
            refine AllReadyH.cons rfl (fun K hK => ?_) AllReadyH.nil
            go_simp
            have hfin := ref_new (G := G) (HNN.out ▸ HN_n.out) (HNN.out ▸ HN_w.out) (HNN.out ▸ HN_r.out) HP.out hlo (by omega) (by omega) (by omega) (by omega) (by omega) (by omega)
            have HFIN := Lib.hid hfin
            refine hK.out _ _ ?_ (fun hHeld => ?_)
            · exact geo_keep HGX.out ((Below.refl _ _).alloc (Nat.le_refl _) _)
            clear hK K hfin
            refine Hand.held_take (i := 10) (d := 7) (v := ?_) rfl rfl (by kernel_rfl) (by kernel_rfl) (by kernel_rfl) (by rfl) ?_ (by assumption) (fun _ _ _ h => h) ?_
            rotate_left
            · intro w hSw
              go_simp
              with_reducible rfl
            try simp only [Act.put, List.setIfInBounds_toArray, List.set_cons_zero, List.set_cons_succ]
            refine wpAnyH_done (by kernel_rfl) ?_ _
            go_wp2_with fail
            go_meet
            refine ⟨⟨X4.heap.size, gn, gw, gr, lo, gp, .slice none 0 0, 0, kind0 X4.heap.size gn gw gr lo gp⟩, rfl, ?_, fun b hb => kind0_up (B := W.heap.size) HBX.out.size hln hlw hlr hlp hb, HBX.out.alloc HBX.out.size _, rfl⟩
            have h := HFIN.out
            simp only [headCells, ← HNN.out] at h
            exact h
        · have hmk := HMI.out X2
          have hmk2 := HMI.out X2.drew
          go_simp
          clear hmk hmk2
          have hb : Below X2.heap.size X2 (X2.alloc (.cells (madeCells #[.int .i64 0] N) 3)) := (Below.refl _ _).alloc (Nat.le_refl _) _
          have hrow := World.rowIs_made X2 (.int .i64 0) N 3
          generalize X2.alloc (.cells (madeCells #[.int .i64 0] N) 3) = X3 at hb hrow ⊢
          obtain ⟨gw, hgw⟩ : ∃ g, g = X2.heap.size := ⟨_, rfl⟩
          rw [← hgw] at hrow ⊢
          have hlw : W.heap.size ≤ gw := by rw [hgw]; exact HBX.out.size
          have HN_w := Lib.hid hrow
          have hd_r_w : gr < gw := by have := HN_r.out.lt; omega
          have hd_n_w : gn < gw := by have := HN_n.out.lt; omega
          clear hgw hrow
          replace HN_r := Lib.hid (HN_r.out.of_block (hb.block _ HN_r.out.lt))
          replace HN_n := Lib.hid (HN_n.out.of_block (hb.block _ HN_n.out.lt))
          replace HGX := Lib.hid (geo_keep HGX.out hb)
          replace HBX := Lib.hid (below_then HBX.out hb)
          refine hK.out _ _ ?_ (fun hHeld => ?_)
          · exact HGX.out
          clear hK K hb
          refine wpAnyH_ready (rs := [1]) (by kernel_rfl) (by simp) ?_
          refine AllReadyH.cons rfl (fun K hK => ?_) AllReadyH.nil
          · go_simp
            go_wp2_with (go_at_call 42; refine (HPN.out _).mono ?_; rintro e X4 ⟨gp, rfl, hlo, hp, hb⟩)
            obtain ⟨lo, hlo2⟩ : ∃ lo, lo = X3.heap.size := ⟨_, rfl⟩
            have hlp : W.heap.size ≤ lo := by rw [hlo2]; exact HBX.out.size
            replace hlo : lo ≤ gp := by rw [hlo2]; exact hlo
            replace hp : PlanPkg.RefAt X4 lo gp [] 0 := by rw [hlo2]; exact hp
            have hgl := hp.lt
            have HP := Lib.hid hp
            have hd_r_p : gr < lo := by have := HN_r.out.lt; omega
            have hd_n_p : gn < lo := by have := HN_n.out.lt; omega
            have hd_w_p : gw < lo := by have := HN_w.out.lt; omega
            clear hlo2 hp
            replace hb : Below X3.heap.size X3 X4 := hb
            replace HN_r := Lib.hid (HN_r.out.of_block (hb.block _ HN_r.out.lt))
            replace HN_n := Lib.hid (HN_n.out.of_block (hb.block _ HN_n.out.lt))
            replace HN_w := Lib.hid (HN_w.out.of_block (hb.block _ HN_w.out.lt))
            replace HGX := Lib.hid (geo_keep HGX.out hb)
            replace HBX := Lib.hid (below_then HBX.out hb)
            refine hK.out _ _ ?_ (fun hHeld => ?_)
            · exact HGX.out
            clear hK K hb
            refine Hand.held_take (i := 8) (d := 25) (v := ?_) rfl rfl (by kernel_rfl) (by kernel_rfl) (by kernel_rfl) (by rfl) ?_ (by assumption) (fun _ _ _ h => h) ?_
            rotate_left
            · intro w hSw
              go_simp
              with_reducible rfl
            try simp only [Act.put, List.setIfInBounds_toArray, List.set_cons_zero, List.set_cons_succ]
            refine wpAnyH_ready (rs := [9]) (by kernel_rfl) (by simp) ?_
            refine AllReadyH.cons rfl (fun K hK => ?_) AllReadyH.nil
            go_simp
            have hfin := ref_new (G := G) (HNN.out ▸ HN_n.out) (HNN.out ▸ HN_w.out) (HNN.out ▸ HN_r.out) HP.out hlo (by omega) (by omega) (by omega) (by omega) (by omega) (by omega)
            have HFIN := Lib.hid hfin
            refine hK.out _ _ ?_ (fun hHeld => ?_)
            · exact geo_keep HGX.out ((Below.refl _ _).alloc (Nat.le_refl _) _)
            clear hK K hfin
            refine Hand.held_take (i := 10) (d := 7) (v := ?_) rfl rfl (by kernel_rfl) (by kernel_rfl) (by kernel_rfl) (by rfl) ?_ (by assumption) (fun _ _ _ h => h) ?_
            rotate_left
            · intro w hSw
              go_simp
              with_reducible rfl
            try simp only [Act.put, List.setIfInBounds_toArray, List.set_cons_zero, List.set_cons_succ]
            refine wpAnyH_done (by kernel_rfl) ?_ _
            go_wp2_with fail
            go_meet
            refine ⟨⟨X4.heap.size, gn, gw, gr, lo, gp, .slice none 0 0, 0, kind0 X4.heap.size gn gw gr lo gp⟩, rfl, ?_, fun b hb => kind0_up (B := W.heap.size) HBX.out.size hln hlw hlr hlp hb, HBX.out.alloc HBX.out.size _, rfl⟩
            have h := HFIN.out
            simp only [headCells, ← HNN.out] at h
            exact h
      · have hmk := HMI.out X1
        have hmk2 := HMI.out X1.drew
        go_simp
        clear hmk hmk2
        have hb : Below X1.heap.size X1 (X1.alloc (.cells (madeCells #[.int .i64 0] N) 3)) := (Below.refl _ _).alloc (Nat.le_refl _) _
        have hrow := World.rowIs_made X1 (.int .i64 0) N 3
        generalize X1.alloc (.cells (madeCells #[.int .i64 0] N) 3) = X2 at hb hrow ⊢
        obtain ⟨gw, hgw⟩ : ∃ g, g = X1.heap.size := ⟨_, rfl⟩
        rw [← hgw] at hrow ⊢
        have hlw : W.heap.size ≤ gw := by rw [hgw]; exact HBX.out.size
        have HN_w := Lib.hid hrow
        have hd_r_w : gr < gw := by have := HN_r.out.lt; omega
        clear hgw hrow
        replace HN_r := Lib.hid (HN_r.out.of_block (hb.block _ HN_r.out.lt))
        replace HGX := Lib.hid (geo_keep HGX.out hb)
        replace HBX := Lib.hid (below_then HBX.out hb)
        refine hK.out _ _ ?_ (fun hHeld => ?_)
        · exact HGX.out
        clear hK K hb
        refine wpAnyH_ready (rs := [1, 3]) (by kernel_rfl) (by simp) ?_
        refine AllReadyH.cons rfl (fun K hK => ?_) (AllReadyH.cons rfl (fun K hK => ?_) AllReadyH.nil)
        · go_simp
          go_wp2_with (go_at_call 42; refine (HPN.out _).mono ?_; rintro e X3 ⟨gp, rfl, hlo, hp, hb⟩)
          obtain ⟨lo, hlo2⟩ : ∃ lo, lo = X2.heap.size := ⟨_, rfl⟩
          have hlp : W.heap.size ≤ lo := by rw [hlo2]; exact HBX.out.size
          replace hlo : lo ≤ gp := by rw [hlo2]; exact hlo
          replace hp : PlanPkg.RefAt X3 lo gp [] 0 := by rw [hlo2]; exact hp
          have hgl := hp.lt
          have HP := Lib.hid hp
          have hd_r_p : gr < lo := by have := HN_r.out.lt; omega
          have hd_w_p : gw < lo := by have := HN_w.out.lt; omega
          clear hlo2 hp
          replace hb : Below X2.heap.size X2 X3 := hb
          replace HN_r := Lib.hid (HN_r.out.of_block (hb.block _ HN_r.out.lt))
          replace HN_w := Lib.hid (HN_w.out.of_block (hb.block _ HN_w.out.lt))
          replace HGX := Lib.hid (geo_keep HGX.out hb)
          replace HBX := Lib.hid (below_then HBX.out hb)
          refine hK.out _ _ ?_ (fun hHeld => ?_)
          · exact HGX.out
          clear hK K hb
          refine wpAnyH_ready (rs := [3]) (by kernel_rfl) (by simp) ?_
          refine AllReadyH.cons rfl (fun K hK => ?_) AllReadyH.nil
          · have hmk := HMI.out X3
            have hmk2 := HMI.out X3.drew
            go_simp
            clear hmk hmk2
            have hb : Below X3.heap.size X3 (X3.alloc (.cells (madeCells #[.int .i64 0] N) 3)) := (Below.refl _ _).alloc (Nat.le_refl _) _
            have hrow := World.rowIs_made X3 (.int .i64 0) N 3
            generalize X3.alloc (.cells (madeCells #[.int .i64 0] N) 3) = X4 at hb hrow ⊢
            obtain ⟨gn, hgn⟩ : ∃ g, g = X3.heap.size := ⟨_, rfl⟩
            rw [← hgn] at hrow ⊢
            have hln : W.heap.size ≤ gn := by rw [hgn]; exact HBX.out.size
            have HN_n := Lib.hid hrow
            have hd_r_n : gr < gn := by have := HN_r.out.lt; omega
            have hd_w_n : gw < gn := by have := HN_w.out.lt; omega
            have hd_p_n : gp < gn := by have := HP.out.lt; omega
            clear hgn hrow
            replace HN_r := Lib.hid (HN_r.out.of_block (hb.block _ HN_r.out.lt))
            replace HN_w := Lib.hid (HN_w.out.of_block (hb.block _ HN_w.out.lt))
            replace HP := Lib.hid (HP.out.below hb hlo)
            replace HGX := Lib.hid (geo_keep HGX.out hb)
            replace HBX := Lib.hid (below_then HBX.out hb)
            refine hK.out _ _ ?_ (fun hHeld => ?_)
            · exact HGX.out
            clear hK K hb
            refine Hand.held_take (i := 8) (d := 25) (v := ?_) rfl rfl (by kernel_rfl) (by kernel_rfl) (by kernel_rfl) (by rfl) ?_ (by assumption) (fun _ _ _ h => h) ?_
            rotate_left
            · intro w hSw
              go_simp
              with_reducible rfl
            try simp only [Act.put, List.setIfInBounds_toArray, List.set_cons_zero, List.set_cons_succ]
            refine wpAnyH_ready (rs := [9]) (by kernel_rfl) (by simp) ?_
            refine AllReadyH.cons rfl (fun K hK => ?_) AllReadyH.nil
            go_simp
            have hfin := ref_new (G := G) (HNN.out ▸ HN_n.out) (HNN.out ▸ HN_w.out) (HNN.out ▸ HN_r.out) HP.out hlo (by omega) (by omega) (by omega) (by omega) (by omega) (by omega)
            have HFIN := Lib.hid hfin
            refine hK.out _ _ ?_ (fun hHeld => ?_)
            · exact geo_keep HGX.out ((Below.refl _ _).alloc (Nat.le_refl _) _)
            clear hK K hfin
            refine Hand.held_take (i := 10) (d := 7) (v := ?_) rfl rfl (by kernel_rfl) (by kernel_rfl) (by kernel_rfl) (by rfl) ?_ (by assumption) (fun _ _ _ h => h) ?_
            rotate_left
            · intro w hSw
              go_simp
              with_reducible rfl
            try simp only [Act.put, List.setIfInBounds_toArray, List.set_cons_zero, List.set_cons_succ]
            refine wpAnyH_done (by kernel_rfl) ?_ _
            go_wp2_with fail
            go_meet
            refine ⟨⟨X4.heap.size, gn, gw, gr, lo, gp, .slice none 0 0, 0, kind0 X4.heap.size gn gw gr lo gp⟩, rfl, ?_, fun b hb => kind0_up (B := W.heap.size) HBX.out.size hln hlw hlr hlp hb, HBX.out.alloc HBX.out.size _, rfl⟩
            have h := HFIN.out
            simp only [headCells, ← HNN.out] at h
            exact h
        · have hmk := HMI.out X2
          have hmk2 := HMI.out X2.drew
          go_simp
          clear hmk hmk2
          have hb : Below X2.heap.size X2 (X2.alloc (.cells (madeCells #[.int .i64 0] N) 3)) := (Below.refl _ _).alloc (Nat.le_refl _) _
          have hrow := World.rowIs_made X2 (.int .i64 0) N 3
          generalize X2.alloc (.cells (madeCells #[.int .i64 0] N) 3) = X3 at hb hrow ⊢
          obtain ⟨gn, hgn⟩ : ∃ g, g = X2.heap.size := ⟨_, rfl⟩
          rw [← hgn] at hrow ⊢
          have hln : W.heap.size ≤ gn := by rw [hgn]; exact HBX.out.size
          have HN_n := Lib.hid hrow
          have hd_r_n : gr < gn := by have := HN_r.out.lt; omega
          have hd_w_n : gw < gn := by have := HN_w.out.lt; omega
          clear hgn hrow
          replace HN_r := Lib.hid (HN_r.out.of_block (hb.block _ HN_r.out.lt))
          replace HN_w := Lib.hid (HN_w.out.of_block (hb.block _ HN_w.out.lt))
          replace HGX := Lib.hid (geo_keep HGX.out hb)
          replace HBX := Lib.hid (below_then HBX.out hb)
          refine hK.out _ _ ?_ (fun hHeld => ?_)
          · exact HGX.out
          clear hK K hb
          refine wpAnyH_ready (rs := [1]) (by kernel_rfl) (by simp) ?_
          refine AllReadyH.cons rfl (fun K hK => ?_) AllReadyH.nil
          · go_simp
            go_wp2_with (go_at_call 42; refine (HPN.out _).mono ?_; rintro e X4 ⟨gp, rfl, hlo, hp, hb⟩)
            obtain ⟨lo, hlo2⟩ : ∃ lo, lo = X3.heap.size := ⟨_, rfl⟩
            have hlp : W.heap.size ≤ lo := by rw [hlo2]; exact HBX.out.size
            replace hlo : lo ≤ gp := by rw [hlo2]; exact hlo
            replace hp : PlanPkg.RefAt X4 lo gp [] 0 := by rw [hlo2]; exact hp
            have hgl := hp.lt
            have HP := Lib.hid hp
            have hd_r_p : gr < lo := by have := HN_r.out.lt; omega
            have hd_w_p : gw < lo := by have := HN_w.out.lt; omega
            have hd_n_p : gn < lo := by have := HN_n.out.lt; omega
            clear hlo2 hp
            replace hb : Below X3.heap.size X3 X4 := hb
            replace HN_r := Lib.hid (HN_r.out.of_block (hb.block _ HN_r.out.lt))
            replace HN_w := Lib.hid (HN_w.out.of_block (hb.block _ HN_w.out.lt))
            replace HN_n := Lib.hid (HN_n.out.of_block (hb.block _ HN_n.out.lt))
            replace HGX := Lib.hid (geo_keep HGX.out hb)
            replace HBX := Lib.hid (below_then HBX.out hb)
            refine hK.out _ _ ?_ (fun hHeld => ?_)
            · exact HGX.out
            clear hK K hb
            refine Hand.held_take (i := 8) (d := 25) (v := ?_) rfl rfl (by kernel_rfl) (by kernel_rfl) (by kernel_rfl) (by rfl) ?_ (by assumption) (fun _ _ _ h => h) ?_
            rotate_left
            · intro w hSw
              go_simp
              with_reducible rfl
            try simp only [Act.put, List.setIfInBounds_toArray, List.set_cons_zero, List.set_cons_succ]
            refine wpAnyH_ready (rs := [9]) (by kernel_rfl) (by simp) ?_
            refine AllReadyH.cons rfl (fun K hK => ?_) AllReadyH.nil
            go_simp
            have hfin := ref_new (G := G) (HNN.out ▸ HN_n.out) (HNN.out ▸ HN_w.out) (HNN.out ▸ HN_r.out) HP.out hlo (by omega) (by omega) (by omega) (by omega) (by omega) (by omega)
            have HFIN := Lib.hid hfin
            refine hK.out _ _ ?_ (fun hHeld => ?_)
            · exact geo_keep HGX.out ((Below.refl _ _).alloc (Nat.le_refl _) _)
            clear hK K hfin
            refine Hand.held_take (i := 10) (d := 7) (v := ?_) rfl rfl (by kernel_rfl) (by kernel_rfl) (by kernel_rfl) (by rfl) ?_ (by assumption) (fun _ _ _ h => h) ?_
            rotate_left
            · intro w hSw
              go_simp
              with_reducible rfl
            try simp only [Act.put, List.setIfInBounds_toArray, List.set_cons_zero, List.set_cons_succ]
            refine wpAnyH_done (by kernel_rfl) ?_ _
            go_wp2_with fail
            go_meet
            refine ⟨⟨X4.heap.size, gn, gw, gr, lo, gp, .slice none 0 0, 0, kind0 X4.heap.size gn gw gr lo gp⟩, rfl, ?_, fun b hb => kind0_up (B := W.heap.size) HBX.out.size hln hlw hlr hlp hb, HBX.out.alloc HBX.out.size _, rfl⟩
            have h := HFIN.out
            simp only [headCells, ← HNN.out] at h
            exact h
  case rest =>
    obtain ⟨P, rfl, hrf, hup, hbx, hj0⟩ := hcut
    rename World => wd
    have HRF := Lib.hid hrf
    have HUP := Lib.hid hup
    have HBD := Lib.hid (below_then HWs.out hbx)
    have HJ0 := Lib.hid hj0
    clear hrf hup hbx hj0 HMI HMB HPN HGE HGW hWX k0 k1 k2 k3 k4
    go_wp2
    go_loopw [8] (fun i wr => ∃ k : Nat, i = .int .i64 k ∧ k ≤ n ∧ (∀ z ∈ zs.take k, 0 ≤ z ∧ z < (N : Int)) ∧ Ref G wr P (fresh (rtOf zs k)) ∧ Below w.heap.size w wr) (fun i _ => n - (intOf i).toNat)
    case atStart => exact ⟨0, rfl, by omega, by simp, (show rtOf zs 0 = fun _ => false by funext i; simp [rtOf]) ▸ HRF.out, HBD.out⟩
    case round =>
      obtain ⟨k, rfl, hk, hall, hr, hbw⟩ := hrel
      have HALL := Lib.hid hall
      have HR := Lib.hid hr
      have HBW := Lib.hid hbw
      clear hall hr hbw
      by_cases hlt : k < n
      · obtain ⟨b0, o0, z, rfl, hb0, hzk, hc, z0, z1⟩ := (nums_keep (nums_more HZ.out hB) HBW.out).at_ hlt
        have HZK := Lib.hid hzk
        clear hzk
        by_cases hz0 : z < 0
        · have d0 : decide (z < 0) = true := by simpa using hz0
          have HZB := Lib.hid hz0
          clear hz0
          go_wp2
          go_ret2
          exact ⟨Or.inr ⟨fun h => by have := (h z (List.mem_of_getElem? HZK.out)).1; have := HZB.out; omega, rfl⟩, HBW.out⟩
        · have d0 : decide (z < 0) = false := by simp; omega
          by_cases hz1 : (N : Int) ≤ z
          · have d1 : decide ((N : Int) ≤ z) = true := by simpa using hz1
            have HZB := Lib.hid hz1
            clear hz0 hz1
            go_wp2
            go_ret2
            exact ⟨Or.inr ⟨fun h => by have := (h z (List.mem_of_getElem? HZK.out)).2; have := HZB.out; omega, rfl⟩, HBW.out⟩
          · have d1 : decide ((N : Int) ≤ z) = false := by simp; omega
            obtain ⟨y, rfl⟩ : ∃ y : Nat, z = (y : Int) := ⟨z.toNat, by omega⟩
            have hyN : (y : Int) < (N : Int) := by omega
            have c9 := HR.out.cells.2.2.2.2.2.1
            have tc := HR.out.rr.cell (i := y) (by rw [← HN.out]; omega)
            have tf := HR.out.rr.frozen y
            rw [← HN.out] at c9
            have hne1 : P.g ≠ P.gr := fun e => by have h1 := HR.out.apart.g; have h2 := HR.out.apart.r; rw [e] at h1; omega
            have hne2 : b0 ≠ P.gr := fun e => by have := HUP.out P.gr (own_of P HR.out.apart.r (by omega)); have := HWs.out.size; omega
            clear hz0 hz1
            go_wp2_with fail
            go_region_held3 (fun w' => w'.cell? ⟨P.g, 9, none⟩ = some (.slice (some ⟨P.gr, 0, none⟩) N N) ∧ w'.cell? ⟨b0, o0 + k, none⟩ = some (.int .i64 (y : Int)))
              (first | exact ⟨c9, hc⟩ | exact held2_grown (by assumption) (grown_setCell _ _ _) hne1 hne2 | go_keep)
              (first | fail)
            rename_i hHeld
            clear hHeld
            refine at_q ?_
            intro Z hZ
            replace hZ : Z = wr.drew.setCell ⟨P.gr, y, none⟩ (.bool true) := hZ
            have HRZ : Hid (Ref G Z P (fresh (rtOf zs (k + 1)))) := by
              rw [hZ, rtOf_step HZK.out (by omega)]
              exact Lib.hid (Ref.set_rt (HR.out.keep (w' := wr.drew) (fun _ _ => rfl) (Nat.le_refl _)) y true)
            have HBZ : Hid (Below w.heap.size w Z) := by
              rw [hZ]
              exact Lib.hid (HBW.out.drew.setCell (by have := HUP.out P.gr (own_of P HR.out.apart.r (by omega)); have := HWs.out.size; show w.heap.size ≤ P.gr; omega) _)
            clear hZ c9 tc tf hc
            go_wp2
            go_roundw
            case measure => simp [intOf]; omega
            case rel =>
              refine ⟨k + 1, by go_num, by omega, fun q hq => ?_, HRZ.out, HBZ.out⟩
              obtain ⟨hl, hzq⟩ := List.getElem?_eq_some_iff.1 HZK.out
              rw [List.take_succ_eq_append_getElem hl] at hq
              rcases List.mem_append.1 hq with hq | hq
              · exact HALL.out q hq
              · rw [List.mem_singleton.1 hq, hzq]
                exact ⟨by omega, hyN⟩
      · obtain rfl : k = n := by omega
        go_wp2
        go_ret2
        have hall := HALL.out
        rw [List.take_of_length_le (by rw [HZ.out.1]; exact Nat.le_refl _)] at hall
        exact ⟨Or.inl ⟨hall, P, rfl, by rw [HZ.out.1]; exact HR.out, fun b hb => Nat.le_trans HWs.out.size (HUP.out b hb), HJ0.out⟩, HBW.out⟩
end

end Go.Proofs.Ytlmdlhfdacmcnaa.NandRef
