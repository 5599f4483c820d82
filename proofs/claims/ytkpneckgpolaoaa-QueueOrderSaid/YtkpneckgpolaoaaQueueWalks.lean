/-
  What the calls of package queue do, the small ones: New, has, of, copied, Len, count, Busy.
-/
import Derived.Test.YtkpneckgpolaoaaQueueMem
import Derived.Deep.DeepCutAuto
namespace Go.Proofs.Ytkpneckgpolaoaa.QueuePkg
open Go.RowKit Queue
set_option maxRecDepth 4000

theorem info64 : intInfo Try.prog 3 := ⟨_, rfl, by kernel_rfl, by kernel_rfl, by kernel_rfl⟩

theorem below_on {B : Nat} {a b c : World} (h : Below B a b) (k : Below b.heap.size b c) (hB : B ≤ b.heap.size) : Below B a c := h.trans (k.mono hB)

theorem New_bad (ch : Int) (h : ¬ (1 ≤ ch ∧ ch ≤ 4)) (w : World) : Calls Try.prog 9 #[.int .i64 ch] w fun e w' => e = .returned (.tuple #[.pointer none, .int .i64 1]) ∧ w' = w := by
  by_cases h1 : ch < 1
  · clear h
    go_enter Try.func9, Try.ntmps9
    go_wp2
    go_ret2
    exact ⟨rfl, rfl⟩
  · have h4 : 4 < ch := by omega
    clear h
    go_enter Try.func9, Try.ntmps9
    go_wp2
    go_ret2
    exact ⟨rfl, rfl⟩

theorem New_ok (ch : Int) (h1 : 1 ≤ ch) (h4 : ch ≤ 4) (w : World) : Calls Try.prog 9 #[.int .i64 ch] w fun e w' => e = .returned (.tuple #[ptr w.heap.size, .int .i64 0]) ∧ w' = w.alloc (.cells #[.int .i64 ch, .slice none 0 0, .slice none 0 0, .slice none 0 0, .slice none 0 0] 50) := by
  have g1 : decide (ch < 1) = false := by simpa using h1
  have g4 : decide (4 < ch) = false := by simpa using h4
  go_enter Try.func9, Try.ntmps9
  go_wp2
  go_ret2
  exact ⟨rfl, rfl⟩

theorem has_any {w : World} {P : Pl} {ch : Int} {rs : Nat → List Row} (h : Qs w P ch rs) (c : Int) : Calls Try.prog 26 #[ptr P.g, .int .i64 c] w fun e w' => e = .returned (.bool (decide (0 ≤ c ∧ c < ch))) ∧ w' = w := by
  obtain ⟨g0, _⟩ := h.cells
  by_cases h0 : 0 ≤ c
  · have e : decide (0 ≤ c ∧ c < ch) = decide (c < ch) := by simp [h0]
    rw [e]
    clear h e
    go_enter Try.func26, Try.ntmps26
    go_wp2
    go_ret
    exact ⟨rfl, rfl⟩
  · have e : decide (0 ≤ c ∧ c < ch) = false := by simp [h0]
    rw [e]
    clear h e
    go_enter Try.func26, Try.ntmps26
    go_wp2
    go_ret
    exact ⟨rfl, rfl⟩

theorem of_out {w : World} {P : Pl} {ch : Int} {rs : Nat → List Row} (h : Qs w P ch rs) (c : Int) (hc : ¬ (0 ≤ c ∧ c < ch)) : Calls Try.prog 18 #[ptr P.g, .int .i64 c] w fun e w' => e = .returned (.slice none 0 0) ∧ w' = w := by
  have H := has_any h c
  rw [decide_eq_false hc] at H
  have HH := Lib.hid H
  clear h H hc
  go_enter Try.func18, Try.ntmps18
  go_wp2_with fail
  refine HH.out.mono ?_
  rintro e w2 ⟨rfl, rfl⟩
  clear HH
  go_wp2
  go_ret
  exact ⟨rfl, rfl⟩

theorem of_in {w : World} {P : Pl} {ch : Int} {rs : Nat → List Row} (h : Qs w P ch rs) (c : Nat) (hc : (c : Int) < ch) : Calls Try.prog 18 #[ptr P.g, .int .i64 (c : Int)] w fun e w' => e = .returned (P.v c) ∧ w' = w := by
  have H := has_any h c
  rw [decide_eq_true (show 0 ≤ (c : Int) ∧ (c : Int) < ch by omega)] at H
  have HH := Lib.hid H
  have hc4 : c < 4 := by have := h.top; omega
  have hc5 : (c : Int) < 4 := by omega
  have gc := h.cell hc4
  clear h H hc
  go_enter Try.func18, Try.ntmps18
  go_wp2_with fail
  refine HH.out.mono ?_
  rintro e w2 ⟨rfl, rfl⟩
  clear HH
  go_wp2
  go_ret
  exact ⟨rfl, rfl⟩

theorem clone_any (A : Option Addr) (n c B : Nat) (zs : List Int) (w : World) (hn : n ≤ 1000000000) (hr : Nums w B A n zs) (hB : B ≤ w.heap.size) :
    Calls Try.prog 28 #[.slice A n c] w fun e w' => ∃ v, e = .returned v ∧ OwnI w' w.heap.size 3 v zs ∧ Below w.heap.size w w' := by
  rcases A with _ | ad
  · have hy : zs = [] := by
      rcases zs with _ | ⟨y, ys⟩
      · rfl
      · obtain ⟨_, _, b, off, h, _⟩ := hr.2 0 (by simp)
        cases h
    subst hy
    have hnil : (binOp .eql 30 (.slice none n c) (.slice none 0 0)).run Try.prog w = .ok (.bool true) w := Lib.run_eql_slice_nil w 30 3 none n c 0 0 Try.underlying30
    go_enter Try.func28, Try.ntmps28
    go_wp2
    go_ret
    exact ⟨_, rfl, ownI_nil _ _ _, Below.refl _ _⟩
  · have hlen : ([] : List Int).length + n ≤ 1000000000000 := by simp; omega
    have HR := Lib.hid (nums_keep (nums_more hr hB) ((Below.refl w.heap.size w).alloc (Nat.le_refl _) (.cells #[] 3)))
    clear hr
    have hnil : (binOp .eql 30 (.slice (some ad) n c) (.slice none 0 0)).run Try.prog w = .ok (.bool false) w := Lib.run_eql_slice_nil w 30 3 (some ad) n c 0 0 Try.underlying30
    go_enter Try.func28, Try.ntmps28
    go_wp2_with (at_builtin; refine wpList_append_nums _ rfl _ _ _ rfl w.heap.size 3 Try.underlying30 info64 _ [] rfl (ownI_new0 w 3) w.heap.size (some ad) n c zs rfl HR.out hlen (by simp) ?_)
    intro v2 w2 ho2 hg2
    have HO := Lib.hid ho2
    have HB := Lib.hid (((Below.refl w.heap.size w).alloc (Nat.le_refl _) _).grown hg2 (by simp) (fun k hk => by simp [Value.ownBlock] at hk; omega))
    clear ho2 hg2
    go_wp2
    go_ret
    exact ⟨_, rfl, HO.out, HB.out⟩

/-- A job with positions of its own. -/
theorem copied_any (j : Jb) (A : Option Addr) (n c B : Nat) (w : World) (hn : n ≤ 1000000000) (hr : Nums w B A n j.d) (hB : B ≤ w.heap.size) :
    Calls Try.prog 19 #[jobV j (.slice A n c)] w fun e w' => ∃ v, e = .returned (jobV j v) ∧ OwnI w' w.heap.size 3 v j.d ∧ Below w.heap.size w w' := by
  obtain ⟨k, l, u, p, d⟩ := j
  dsimp only at hr
  obtain ⟨Y, hY⟩ : ∃ Y, Y = (w.alloc (.cells #[.int .i64 k, .int .i64 l, .int .i64 u, .int .i64 p, .slice A n c] 32)).alloc (.cells #[.int .i64 0, .int .i64 0, .int .i64 0, .int .i64 0, .slice none 0 0] 32) := ⟨_, rfl⟩
  have hb0 : Below w.heap.size w Y := by rw [hY]; exact ((Below.refl _ _).alloc (Nat.le_refl _) _).alloc (by simp) _
  have hF1 : Five Y w.heap.size 32 (.int .i64 k) (.int .i64 l) (.int .i64 u) (.int .i64 p) (.slice A n c) := by rw [hY]; exact (Five.new w _ _ _ _ _ _).old _
  have hF2 : Five Y (w.heap.size + 1) 32 (.int .i64 0) (.int .i64 0) (.int .i64 0) (.int .i64 0) (.slice none 0 0) := by
    rw [hY]
    have h := Five.new (w.alloc (.cells #[.int .i64 k, .int .i64 l, .int .i64 u, .int .i64 p, .slice A n c] 32)) 32 (.int .i64 0) (.int .i64 0) (.int .i64 0) (.int .i64 0) (.slice none 0 0)
    rwa [World.size_alloc] at h
  have HC := Lib.hid (clone_any A n c w.heap.size d Y hn (nums_keep (nums_more hr hB) hb0) hb0.size)
  have HB := Lib.hid hb0
  have HS : Hid (w.heap.size + 2 = Y.heap.size) := Lib.hid (by rw [hY]; simp)
  clear hr hb0
  obtain ⟨c0, c1, c2, c3, c4⟩ := hF1.cells
  have H1 := Lib.hid hF1
  have H2 := Lib.hid hF2
  clear hF1 hF2
  rw [hY] at HC H1 H2 HB HS c0 c1 c2 c3 c4
  go_enter Try.func19, Try.ntmps19
  go_wp2_with fail
  refine HC.out.mono ?_
  rintro e w2 ⟨v, rfl, ho, hb⟩
  obtain ⟨A2, n2, c2', rfl⟩ := ho.form
  replace H1 := Lib.hid (H1.out.below hb)
  replace H2 := Lib.hid (H2.out.below hb)
  replace HB := Lib.hid (below_on HB.out hb HB.out.size)
  have HO := Lib.hid ho
  rw [← HS.out] at HO
  clear ho hb HC HS hY Y c0 c1 c2 c3 c4
  obtain ⟨b0, b1, b2, b3, b4⟩ := H1.out.cells
  obtain ⟨e0, e1, e2, e3, e4⟩ := H1.out.free
  go_upto_region 2 with fail
  refine at_wld ?_
  intro Z hZ
  have h1 := five_set4 H1.out (.slice A2 n2 c2')
  have h2 : Five (w2.setCell ⟨w.heap.size, 4, none⟩ (.slice A2 n2 c2')) (w.heap.size + 1) 32 (.int .i64 0) (.int .i64 0) (.int .i64 0) (.int .i64 0) (.slice none 0 0) := H2.out.keep (Below.heap_setCell _ _ _ _ (Nat.succ_ne_self _))
  have hb := HB.out.setCell (p := ⟨w.heap.size, 4, none⟩) (Nat.le_refl w.heap.size) (.slice A2 n2 c2')
  have ho := HO.out.keep (w' := w2.setCell ⟨w.heap.size, 4, none⟩ (.slice A2 n2 c2')) (fun b hb => Below.heap_setCell _ _ _ _ (by have := HO.out.block b hb; show b ≠ w.heap.size; omega))
  rw [← hZ] at h1 h2 hb ho
  replace H2 := Lib.hid h2
  replace HB := Lib.hid hb
  replace HO := Lib.hid ho
  clear hZ h2 hb ho H1 b0 b1 b2 b3 b4 e0 e1 e2 e3 e4
  obtain ⟨b0, b1, b2, b3, b4⟩ := h1.cells
  obtain ⟨e0, e1, e2, e3, e4⟩ := H2.out.free
  obtain ⟨f0, f1, f2, f3, f4⟩ := H2.out.cells
  clear h1
  go_wp2
  have hP := H2.out.set (.int .i64 k) (.int .i64 l) (.int .i64 u) (.int .i64 p) (.slice A2 n2 c2')
  have HX := Lib.hid (below_set5 HB.out (Nat.le_succ _) (.int .i64 k) (.int .i64 l) (.int .i64 u) (.int .i64 p) (.slice A2 n2 c2'))
  have HK : Hid (∀ b, w.heap.size + 2 ≤ b → (((((Z.setCell ⟨w.heap.size + 1, 0, none⟩ (.int .i64 k)).setCell ⟨w.heap.size + 1, 1, none⟩ (.int .i64 l)).setCell ⟨w.heap.size + 1, 2, none⟩ (.int .i64 u)).setCell ⟨w.heap.size + 1, 3, none⟩ (.int .i64 p)).setCell ⟨w.heap.size + 1, 4, none⟩ (.slice A2 n2 c2')).heap[b]? = Z.heap[b]?) := Lib.hid (fun b hb => other_set5 (by omega) _ _ _ _ _)
  clear H2 HB b0 b1 b2 b3 b4 e0 e1 e2 e3 e4 f0 f1 f2 f3 f4
  generalize World.setCell _ _ _ = V at hP HX HK ⊢
  obtain ⟨P0, P1, P2, P3, P4⟩ := hP.cells
  refine bodyPost_ret (v := jobV ⟨k, l, u, p, d⟩ (.slice A2 n2 c2')) ?_ rfl ⟨_, rfl, ?_, HX.out⟩
  · simp [results, Try.results19, go_sem, P0, P1, P2, P3, P4]
  · have h := HO.out.keep fun b hb => HK.out b (HO.out.block b hb)
    exact ⟨h.1, h.2.imp id fun ⟨g, cap, cur, hv, hg, r⟩ => ⟨g, cap, cur, hv, by omega, r⟩⟩

theorem Len_out {w : World} {P : Pl} {ch : Int} {rs : Nat → List Row} (h : Qs w P ch rs) (c : Int) (hc : ¬ (0 ≤ c ∧ c < ch)) : Calls Try.prog 13 #[ptr P.g, .int .i64 c] w fun e w' => e = .returned (.int .i64 0) ∧ w' = w := by
  have HH := Lib.hid (of_out h c hc)
  clear h hc
  go_enter Try.func13, Try.ntmps13
  go_wp2_with fail
  refine HH.out.mono ?_
  rintro e w2 ⟨rfl, rfl⟩
  clear HH
  go_wp2
  go_ret
  exact ⟨rfl, rfl⟩

theorem Len_in {w : World} {P : Pl} {ch : Int} {rs : Nat → List Row} (h : Qs w P ch rs) (c : Nat) (hc : (c : Int) < ch) : Calls Try.prog 13 #[ptr P.g, .int .i64 (c : Int)] w fun e w' => e = .returned (.int .i64 (rs c).length) ∧ w' = w := by
  have hc4 : c < 4 := by have := h.top; omega
  obtain ⟨A, k, hv, hnk, hk, _⟩ := h.slice hc4
  have HO := of_in h c hc
  rw [hv] at HO
  have HH := Lib.hid HO
  obtain ⟨n, hn⟩ : ∃ n, (rs c).length = n := ⟨_, rfl⟩
  rw [hn] at HH ⊢
  clear h hc HO hv hn hnk
  go_enter Try.func13, Try.ntmps13
  go_wp2_with fail
  refine HH.out.mono ?_
  rintro e w2 ⟨rfl, rfl⟩
  clear HH
  go_wp2
  go_ret
  exact ⟨rfl, rfl⟩

/-- How many jobs of a line a slice has. -/
theorem count_any {w : World} {base : Nat} {v : Value} (rs : List Row) (h : OffR w base 32 5 v (rs.map Row.cells)) (hd : ∀ r ∈ rs, ∃ A n c, r.v = .slice A n c) (hl : rs.length ≤ 1000000000) (z : Int) : Calls Try.prog 20 #[v, .int .i64 z] w fun e w' => e = .returned (.int .i64 (cnt z (rs.map Row.j) : Nat)) ∧ Below w.heap.size w w' := by
  obtain ⟨A, k, hv, hnk, hk, hA⟩ := h.form
  rw [List.length_map] at hv hnk hA
  subst hv
  obtain ⟨n, hn⟩ : ∃ n, rs.length = n := ⟨_, rfl⟩
  have HN := Lib.hid hn
  have HR := Lib.hid h
  have HD := Lib.hid hd
  rw [hn] at hA hl HR
  have HA := Lib.hid hA
  rw [hn]
  clear h hA hn hnk hd
  unfold maxLen at hk
  go_enter Try.func20, Try.ntmps20
  go_wp2
  go_loopw [5, 10] (fun m i wr => ∃ j : Nat, m = .int .i64 (cnt z ((rs.take j).map Row.j) : Nat) ∧ i = .int .i64 (j : Int) ∧ j ≤ n ∧ Below w.heap.size w wr) (fun _ i _ => n - (intOf i).toNat)
  case atStart => exact ⟨0, rfl, rfl, Nat.zero_le _, Below.refl _ _⟩
  case round =>
    obtain ⟨j, rfl, rfl, hj, hb⟩ := hrel
    have HB := Lib.hid hb
    have hcl : cnt z ((rs.take j).map Row.j) ≤ 1000000000 := Nat.le_trans (cnt_le _ _) (by rw [List.length_map, List.length_take]; omega)
    obtain ⟨m, hm⟩ : ∃ m, cnt z ((rs.take j).map Row.j) = m := ⟨_, rfl⟩
    have HM := Lib.hid hm
    rw [hm] at hcl ⊢
    clear hb hm
    by_cases hjn : j < n
    · have hjn2 : (j : Int) < (n : Int) := by omega
      have hj0 : (0 : Int) ≤ (j : Int) := by omega
      obtain ⟨r, hr⟩ : ∃ r, rs[j]? = some r := ⟨_, List.getElem?_eq_getElem (by rw [HN.out]; exact hjn)⟩
      obtain ⟨b, off, rfl⟩ := HA.out (by omega)
      have hcell := fun q x hx => (HR.out.below HB.out).cell (i := j) (j := q) (r := r.cells) (x := x) (by rw [List.getElem?_map, hr]; rfl) hx
      have q0 := (hcell 0 _ rfl).1
      have q1 := (hcell 1 _ rfl).1
      have q2 := (hcell 2 _ rfl).1
      have q3 := (hcell 3 _ rfl).1
      have q4 := (hcell 4 _ rfl).1
      rw [Nat.add_zero] at q0
      have hs : cnt z ((rs.take (j + 1)).map Row.j) = m + (if r.j.l = z then 1 else 0) := by
        rw [List.take_add_one, hr]
        simp only [Option.toList_some, List.map_append, List.map_cons, List.map_nil, cnt_append, cnt_one, HM.out]
      have HS := Lib.hid hs
      obtain ⟨Ad, nd, cd, hvd⟩ := HD.out r (List.mem_of_getElem? hr)
      obtain ⟨⟨x0, x1, x2, x3, x4⟩, x5⟩ := r
      dsimp only at q0 q1 q2 q3 q4 HS hvd
      subst hvd
      clear hcell hr hs
      have HB2 := Lib.hid (HB.out.alloc HB.out.size (.cells #[.int .i64 x0, .int .i64 x1, .int .i64 x2, .int .i64 x3, .slice Ad nd cd] 32))
      by_cases hz : x1 = z
      · subst hz
        rw [if_pos rfl] at HS
        go_wp2
        go_roundw
        case measure => simp [intOf]; omega
        case rel => exact ⟨j + 1, by rw [HS.out]; go_num, by go_num, by omega, HB2.out⟩
      · rw [if_neg hz] at HS
        go_wp2
        go_roundw
        case measure => simp [intOf]; omega
        case rel => exact ⟨j + 1, by rw [HS.out]; rfl, by go_num, by omega, HB2.out⟩
    · obtain rfl : j = n := by omega
      have ht : rs.take j = rs := List.take_of_length_le (by rw [HN.out]; exact Nat.le_refl _)
      rw [ht] at HM
      go_wp2
      go_ret
      exact ⟨by rw [HM.out]; rfl, HB.out⟩

theorem ix_0 (x y z u : Value) (w : World) : (Instr.index 48 (.agg #[x, y, z, u]) (.int .i64 0)).run Try.prog w = .ok x w := by kernel_rfl
theorem ix_1 (x y z u : Value) (w : World) : (Instr.index 48 (.agg #[x, y, z, u]) (.int .i64 1)).run Try.prog w = .ok y w := by kernel_rfl
theorem ix_2 (x y z u : Value) (w : World) : (Instr.index 48 (.agg #[x, y, z, u]) (.int .i64 2)).run Try.prog w = .ok z w := by kernel_rfl
theorem ix_3 (x y z u : Value) (w : World) : (Instr.index 48 (.agg #[x, y, z, u]) (.int .i64 3)).run Try.prog w = .ok u w := by kernel_rfl

def part (q : Js) (z : Int) : Nat → Nat
  | 0 => 0
  | j + 1 => part q z j + cnt z (q j)

theorem part_all (q : Js) (z : Int) : part q z 4 = busy q z := by simp [part, busy]

set_option maxHeartbeats 1000000 in
theorem Busy_any {w : World} {P : Pl} {ch : Int} {rs : Nat → List Row} (h : Qs w P ch rs) (hl : ∀ c, c < 4 → (rs c).length ≤ 1000000000) (z : Int) : Calls Try.prog 14 #[ptr P.g, .int .i64 z] w fun e w' => e = .returned (.int .i64 (busy (fun c => (rs c).map Row.j) z : Nat)) ∧ Below w.heap.size w w' := by
  obtain ⟨v0, v1, v2, v3, v4⟩ := h.cells
  have HV : Hid (∀ c, c < 4 → ∃ A n k, P.v c = .slice A n k) := Lib.hid (fun c hc => by obtain ⟨A, k, hv, _⟩ := h.slice hc; exact ⟨_, _, _, hv⟩)
  obtain ⟨A0, n0, k0, e0⟩ := HV.out 0 (by omega)
  obtain ⟨A1, n1, k1, e1⟩ := HV.out 1 (by omega)
  obtain ⟨A2, n2, k2, e2⟩ := HV.out 2 (by omega)
  obtain ⟨A3, n3, k3, e3⟩ := HV.out 3 (by omega)
  have HC : Hid (∀ c, c < 4 → ∀ X, Below w.heap.size w X → Calls Try.prog 20 #[P.v c, .int .i64 z] X fun e w' => e = .returned (.int .i64 (cnt z ((rs c).map Row.j) : Nat)) ∧ Below X.heap.size X w') := Lib.hid (fun c hc X hX => count_any (rs c) ((h.rows c hc).below hX) (fun r hr => by obtain ⟨A, k, hv, _⟩ := h.data c hc r hr; exact ⟨_, _, _, hv⟩) (hl c hc) z)
  have HL : Hid (∀ c, c < 4 → cnt z ((rs c).map Row.j) ≤ 1000000000) := Lib.hid (fun c hc => Nat.le_trans (cnt_le _ _) (by rw [List.length_map]; exact hl c hc))
  have HP : Hid (part (fun c => (rs c).map Row.j) z 4 = busy (fun c => (rs c).map Row.j) z) := Lib.hid (part_all _ _)
  have HPS : Hid (∀ j, part (fun c => (rs c).map Row.j) z (j + 1) = part (fun c => (rs c).map Row.j) z j + cnt z ((rs j).map Row.j)) := Lib.hid (fun _ => rfl)
  have hp0 : part (fun c => (rs c).map Row.j) z 0 = 0 := rfl
  have HPB : Hid (∀ j, j ≤ 4 → part (fun c => (rs c).map Row.j) z j ≤ j * 1000000000) := Lib.hid (fun j => by
    induction j with
    | zero => intro _; exact Nat.le_refl _
    | succ j ih => intro hj; have := ih (by omega); have := HL.out j (by omega); rw [HPS.out]; omega)
  have HC0 := Lib.hid (HC.out 0 (by omega))
  have HC1 := Lib.hid (HC.out 1 (by omega))
  have HC2 := Lib.hid (HC.out 2 (by omega))
  have HC3 := Lib.hid (HC.out 3 (by omega))
  have HL0 := HL.out 0 (by omega)
  have HL1 := HL.out 1 (by omega)
  have HL2 := HL.out 2 (by omega)
  have HL3 := HL.out 3 (by omega)
  rw [e0] at HC0 v1
  rw [e1] at HC1 v2
  rw [e2] at HC2 v3
  rw [e3] at HC3 v4
  have HS0 := Lib.hid (HPS.out 0)
  have HS1 := Lib.hid (HPS.out 1)
  have HS2 := Lib.hid (HPS.out 2)
  have HS3 := Lib.hid (HPS.out 3)
  obtain ⟨f, hf⟩ : ∃ f, part (fun c => (rs c).map Row.j) z = f := ⟨_, rfl⟩
  rw [hf] at HS0 HS1 HS2 HS3 HP HPB hp0
  rw [← HP.out]
  obtain ⟨y0, h0⟩ : ∃ y, cnt z ((rs 0).map Row.j) = y := ⟨_, rfl⟩
  obtain ⟨y1, h1⟩ : ∃ y, cnt z ((rs 1).map Row.j) = y := ⟨_, rfl⟩
  obtain ⟨y2, h2⟩ : ∃ y, cnt z ((rs 2).map Row.j) = y := ⟨_, rfl⟩
  obtain ⟨y3, h3⟩ : ∃ y, cnt z ((rs 3).map Row.j) = y := ⟨_, rfl⟩
  rw [h0] at HL0 HC0 HS0
  rw [h1] at HL1 HC1 HS1
  rw [h2] at HL2 HC2 HS2
  rw [h3] at HL3 HC3 HS3
  have hcl0 := hp0
  have HP0 := Lib.hid hp0
  clear h hl HC HL HV HPS HP hf e0 e1 e2 e3 h0 h1 h2 h3 hp0 hcl0
  go_enter Try.func14, Try.ntmps14
  go_wp2
  go_loopw [5, 12] (fun m i wr => ∃ j : Nat, m = .int .i64 (f j : Nat) ∧ i = .int .i64 (j : Int) ∧ j ≤ 4 ∧ Below w.heap.size w wr) (fun _ i _ => 4 - (intOf i).toNat)
  case atStart => exact ⟨0, by rw [HP0.out]; rfl, rfl, Nat.zero_le _, Below.refl _ _⟩
  case round =>
    obtain ⟨j, rfl, rfl, hj, hb⟩ := hrel
    have HB := Lib.hid hb
    have hfb := HPB.out j hj
    obtain ⟨m, hm⟩ : ∃ m, f j = m := ⟨_, rfl⟩
    have HM := Lib.hid hm
    rw [hm] at hfb ⊢
    clear hb hm
    have : j = 0 ∨ j = 1 ∨ j = 2 ∨ j = 3 ∨ j = 4 := by omega
    rcases this with rfl | rfl | rfl | rfl | rfl
    · have hix := ix_0 (.slice A0 n0 k0) (.slice A1 n1 k1) (.slice A2 n2 k2) (.slice A3 n3 k3) wr
      go_wp2_with fail
      refine (HC0.out _ HB.out).mono ?_
      rintro e w2 ⟨rfl, hb⟩
      replace HB := Lib.hid (below_on HB.out hb HB.out.size)
      clear hb hix
      go_wp2
      go_roundw
      case measure => simp [intOf]
      case rel => exact ⟨0 + 1, by rw [HS0.out, HM.out]; go_num, rfl, by omega, HB.out⟩
    · have hix := ix_1 (.slice A0 n0 k0) (.slice A1 n1 k1) (.slice A2 n2 k2) (.slice A3 n3 k3) wr
      go_wp2_with fail
      refine (HC1.out _ HB.out).mono ?_
      rintro e w2 ⟨rfl, hb⟩
      replace HB := Lib.hid (below_on HB.out hb HB.out.size)
      clear hb hix
      go_wp2
      go_roundw
      case measure => simp [intOf]
      case rel => exact ⟨1 + 1, by rw [HS1.out, HM.out]; go_num, rfl, by omega, HB.out⟩
    · have hix := ix_2 (.slice A0 n0 k0) (.slice A1 n1 k1) (.slice A2 n2 k2) (.slice A3 n3 k3) wr
      go_wp2_with fail
      refine (HC2.out _ HB.out).mono ?_
      rintro e w2 ⟨rfl, hb⟩
      replace HB := Lib.hid (below_on HB.out hb HB.out.size)
      clear hb hix
      go_wp2
      go_roundw
      case measure => simp [intOf]
      case rel => exact ⟨2 + 1, by rw [HS2.out, HM.out]; go_num, rfl, by omega, HB.out⟩
    · have hix := ix_3 (.slice A0 n0 k0) (.slice A1 n1 k1) (.slice A2 n2 k2) (.slice A3 n3 k3) wr
      go_wp2_with fail
      refine (HC3.out _ HB.out).mono ?_
      rintro e w2 ⟨rfl, hb⟩
      replace HB := Lib.hid (below_on HB.out hb HB.out.size)
      clear hb hix
      go_wp2
      go_roundw
      case measure => simp [intOf]
      case rel => exact ⟨3 + 1, by rw [HS3.out, HM.out]; go_num, rfl, by omega, HB.out⟩
    · go_wp2
      go_ret
      exact ⟨by rw [HM.out]; rfl, HB.out⟩

end Go.Proofs.Ytkpneckgpolaoaa.QueuePkg
