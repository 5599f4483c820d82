/-
  What package nand does: New.
-/
import Derived.Test.YtlmdlhfdacmcnaaNandRead
import Derived.Test.YtlmdlhfdacmcnaaNums
namespace Go.Proofs.Ytlmdlhfdacmcnaa.NandPkg
open Go.RowKit Nand
set_option maxRecDepth 4000

/-- The blocks that are bad, by the first numbers. -/
def rtOf (zs : List Int) (k : Nat) (i : Nat) : Bool := decide ((i : Int) ∈ zs.take k)

theorem rtOf_step {zs : List Int} {k : Nat} {z : Int} (h : zs[k]? = some z) (h0 : 0 ≤ z) : rtOf zs (k + 1) = upd (rtOf zs k) z.toNat true := by
  funext i
  obtain ⟨hl, rfl⟩ := List.getElem?_eq_some_iff.1 h
  unfold rtOf upd
  rw [List.take_succ_eq_append_getElem hl]
  by_cases e : i = (zs[k]).toNat
  · rw [if_pos e]
    have : (i : Int) = zs[k] := by omega
    simp only [List.mem_append, List.mem_singleton, this, or_true, decide_true]
  · rw [if_neg e]
    have : ¬ (i : Int) = zs[k] := by omega
    simp only [List.mem_append, List.mem_singleton, this, or_false]

theorem made_row (w : World) (n : Nat) : (w.alloc (.cells (madeCells #[.int .i64 0, .int .i64 0, .bool false] (n * 3)) 77)).rowIs w.heap.size 77 (n * 3) (bcell (fresh (rtOf [] 0))) := by
  have h := World.rowIs_alloc w (madeCells #[.int .i64 0, .int .i64 0, .bool false] (n * 3)) 77 (bcell (fresh (rtOf [] 0))) (fun i hi => by
    rw [size_madeCells] at hi
    simp only [madeCells, Array.getElem?_map]
    have hr : (Array.range (n * 3))[i]? = some i := by simp [hi]
    rw [hr]
    simp only [Option.map_some, Option.some.injEq, bcell, fresh, rtOf]
    have h3 : i % 3 = 0 ∨ i % 3 = 1 ∨ i % 3 = 2 := by omega
    rcases h3 with h | h | h <;> simp [h])
  rw [size_madeCells] at h
  exact h

theorem info_block : (Try.prog.info? 77).map (fun i => (i.zero, i.size, i.bytes)) = some (some (.agg #[.int .i64 0, .int .i64 0, .bool false]), 3, 24) := by kernel_rfl

theorem run_make_blocks (n : Nat) (hn : n ≤ 1000000) (w : World) :
    (Instr.makeSlice 39 (.int .i64 (n : Int)) (.int .i64 (n : Int))).run Try.prog w = .ok (.slice (some ⟨w.heap.size, 0, none⟩) n n) (w.alloc (.cells (madeCells #[.int .i64 0, .int .i64 0, .bool false] (n * 3)) 77)) := by
  obtain ⟨i, hi, hzz⟩ := Option.map_eq_some_iff.1 info_block
  simp only [Prod.mk.injEq] at hzz
  obtain ⟨hz, hs, hb⟩ := hzz
  have := run_make (P := Try.prog) w 39 77 i _ Try.underlying39 hi hz .i64 .i64 (n : Int) (n : Int) (by omega) (Int.le_refl _) (by rw [hb]; omega) (by omega)
  rw [hs] at this
  simpa [Value.cells] using this

theorem dev_new {G : Shape} {X : World} {gb gm lo gp : Nat} {rt : Nat → Bool} (hrow : X.rowIs gb 77 (cnt G * 3) (bcell (fresh rt))) (hp : PlanPkg.At X lo gp [] 0) (hlo : lo ≤ gp) (hm : Dict X gm G.N.toNat (fun _ => none))
    (h1 : gb ≠ gm) (h2 : gb < lo ∨ gp < gb) (h3 : gm < lo ∨ gp < gm) :
    Dev G (X.alloc (.cells (headCells G ⟨X.heap.size, gb, gm, lo, gp, fun _ => False⟩ false 0) 42)) ⟨X.heap.size, gb, gm, lo, gp, fun _ => False⟩ (fresh rt) := by
  have l1 := hrow.lt
  have l2 := hp.lt
  have l3 := hm.lt
  have hb := (Below.refl X.heap.size X).alloc (Nat.le_refl _) (.cells (headCells G ⟨X.heap.size, gb, gm, lo, gp, fun _ => False⟩ false 0) 42)
  refine ⟨heap_alloc_new X _, hrow.alloc _, hp.below hb hlo, ⟨_, hm.keep (hb.block _ l3), fun a => ⟨fun _ => rfl, fun x y h => by cases h⟩⟩, ⟨by show X.heap.size ≠ gb; omega, by show X.heap.size ≠ gm; omega, h1, hlo, by show X.heap.size < lo ∨ gp < X.heap.size; omega, h2, h3, id, id, id, fun _ _ _ => id⟩, fun b h => ?_⟩
  have hs : (X.alloc (.cells (headCells G ⟨X.heap.size, gb, gm, lo, gp, fun _ => False⟩ false 0) 42)).heap.size = X.heap.size + 1 := by simp
  rw [hs]
  rcases h with h | h | h | h | h
  · have h : b = X.heap.size := h
    omega
  · have h : b = gb := h
    omega
  · have h : b = gm := h
    omega
  · have h : lo ≤ b ∧ b ≤ gp := h
    omega
  · exact h.elim

section
variable {G : Shape} {w : World}

theorem new_bad (c l k p s : Int) (h : ¬ Geom.ok c l k p s) (V : Value) :
    Calls Try.prog 12 #[.agg #[.int .i64 c, .int .i64 l, .int .i64 k, .int .i64 p, .int .i64 s], V] w fun e w' => e = .returned (.tuple #[.pointer none, .int .i64 1]) ∧ Below w.heap.size w w' := by
  have hb0 := (Below.refl w.heap.size w).alloc (Nat.le_refl _) (.cells #[.int .i64 c, .int .i64 l, .int .i64 k, .int .i64 p, .int .i64 s] 23)
  obtain ⟨h0, h1, h2, h3, h4⟩ := geo_new w 23 c l k p s
  have HR := Lib.hid (right_bad h (w.alloc (.cells #[.int .i64 c, .int .i64 l, .int .i64 k, .int .i64 p, .int .i64 s] 23)))
  have HB := Lib.hid hb0
  clear h hb0
  go_enter Try.func12, Try.ntmps12
  go_wp2_with fail
  refine HR.out.mono ?_
  rintro e w2 ⟨rfl, hb⟩
  replace HB := Lib.hid (below_then HB.out hb)
  clear hb
  go_wp2
  go_ret2
  exact ⟨rfl, HB.out⟩

theorem New_any (hG : G.Ok) (A : Option Addr) (n c B : Nat) (zs : List Int) (hn : n ≤ 1000000) (hz : Nums w B A n zs) (hB : B ≤ w.heap.size) :
    Calls Try.prog 12 #[geoV G, .slice A n c] w fun e w' => (((∀ z ∈ zs, 0 ≤ z ∧ z < G.U * G.k) ∧ ∃ P, e = .returned (.tuple #[ptr P.g, .int .i64 0]) ∧ Dev G w' P (fresh (rtOf zs zs.length)) ∧ ∀ b, P.own b → w.heap.size ≤ b) ∨ (¬ (∀ z ∈ zs, 0 ≤ z ∧ z < G.U * G.k) ∧ e = .returned (.tuple #[.pointer none, .int .i64 1]))) ∧ Below w.heap.size w w' := by
  obtain ⟨h0, h1, h2, h3, h4⟩ := geo_new w 23 G.c G.l G.k G.p G.s
  have HR := Lib.hid (right_ok hG.may (w.alloc (.cells #[.int .i64 G.c, .int .i64 G.l, .int .i64 G.k, .int .i64 G.p, .int .i64 G.s] 23)))
  have HU := Lib.hid (fun w => Units_ok hG w)
  have HB := Lib.hid ((Below.refl w.heap.size w).alloc (Nat.le_refl _) (.cells #[.int .i64 G.c, .int .i64 G.l, .int .i64 G.k, .int .i64 G.p, .int .i64 G.s] 23))
  have hk1 : 1 ≤ G.k := hG.may.2.2.2.2.1
  have hk2 : G.k ≤ 64 := hG.may.2.2.2.2.2.1
  have huk := Geom.mul_bd hG.u0 hG.u1 hk1 hk2
  have hcn : ((cnt G : Nat) : Int) = G.U * G.k := by unfold cnt; omega
  have hw1 : IntKind.i64.wrap (G.U * G.k) = (cnt G : Int) := by rw [hcn]; exact kwrap_is (by omega) (by omega)
  have HZ := Lib.hid hz
  rw [← hcn] at huk ⊢
  obtain ⟨N, hN⟩ : ∃ N, N = cnt G := ⟨_, rfl⟩
  rw [← hN] at huk hw1 ⊢
  have HN := Lib.hid hN
  clear hN
  have hmk := run_make_blocks N (by omega)
  clear hz hG hk1 hk2 hcn
  go_enter Try.func12, Try.ntmps12
  go_wp2_with fail
  refine HR.out.mono ?_
  rintro e w2 ⟨rfl, hb⟩
  replace HB := Lib.hid (below_then HB.out hb)
  obtain ⟨k0, k1, k2, k3, k4⟩ : Geo w2 w.heap.size G.c G.l G.k G.p G.s := geo_keep ⟨h0, h1, h2, h3, h4⟩ hb
  have HS := Lib.hid (show w.heap.size < w2.heap.size by have := hb.size; simp at this; omega)
  clear hb h0 h1 h2 h3 h4
  go_wp2_with fail
  go_region_held3 (fun w' => w'.cell? ⟨w.heap.size, 0, none⟩ = some (.int .i64 G.c) ∧ w'.cell? ⟨w.heap.size, 1, none⟩ = some (.int .i64 G.l) ∧ w'.cell? ⟨w.heap.size, 2, none⟩ = some (.int .i64 G.k) ∧ w'.cell? ⟨w.heap.size, 3, none⟩ = some (.int .i64 G.p) ∧ w'.cell? ⟨w.heap.size, 4, none⟩ = some (.int .i64 G.s))
    (first | exact ⟨k0, k1, k2, k3, k4⟩ | exact geo_keep (by assumption) hb | exact geo_keep (by assumption) ((Below.refl _ _).alloc (Nat.le_refl _) _) | go_keep)
    (first
      | (go_at_call 38; refine (HU.out _).mono ?_; rintro e w3 ⟨rfl, hb⟩; replace HB := Lib.hid (below_then HB.out.drew hb)))
  rename_i hHeld
  obtain ⟨k0, k1, k2, k3, k4⟩ := hHeld
  obtain ⟨X, hX⟩ : ∃ X, X = w3.alloc (.cells (madeCells #[.int .i64 0, .int .i64 0, .bool false] (N * 3)) 77) := ⟨_, rfl⟩
  have hrow : X.rowIs w3.heap.size 77 (N * 3) (bcell (fresh (rtOf zs 0))) := by rw [hX]; exact made_row w3 N
  have hgeo : Geo X w.heap.size G.c G.l G.k G.p G.s := by rw [hX]; exact ⟨k0, k1, k2, k3, k4⟩
  have hbx : Below w.heap.size w X := by rw [hX]; exact HB.out.alloc HB.out.size _
  rw [← hX]
  have hgs : w.heap.size < w3.heap.size := Nat.lt_of_lt_of_le HS.out hb.size
  obtain ⟨gb, hgb⟩ : ∃ gb, gb = w3.heap.size := ⟨_, rfl⟩
  rw [← hgb] at hgs hrow ⊢
  have HX0 := Lib.hid (And.intro hrow (And.intro hgeo hbx))
  clear hX hrow hgeo hbx hgb HB hb k0 k1 k2 k3 k4 HR HU hmk hw1
  have HW1 := Lib.hid huk
  go_wp2
  go_loopw [20] (fun i wr => ∃ k : Nat, i = .int .i64 k ∧ k ≤ n ∧ (∀ z ∈ zs.take k, 0 ≤ z ∧ z < (N : Int)) ∧ wr.rowIs gb 77 (N * 3) (bcell (fresh (rtOf zs k))) ∧ Geo wr w.heap.size G.c G.l G.k G.p G.s ∧ Below w.heap.size w wr) (fun i _ => n - (intOf i).toNat)
  case atStart => exact ⟨0, rfl, by omega, by simp, HX0.out⟩
  case round =>
    obtain ⟨k, rfl, hk, hall, hrow, hgeo, hbw⟩ := hrel
    have HALL := Lib.hid hall
    have HROW := Lib.hid hrow
    have HGEO := Lib.hid hgeo
    have HBW := Lib.hid hbw
    clear hall hrow hgeo hbw
    by_cases hlt : k < n
    · obtain ⟨b0, o0, z, rfl, hb0, hzk, hc, z0, z1⟩ := (nums_keep (nums_more HZ.out hB) HBW.out).at_ hlt
      have HZK := Lib.hid hzk
      by_cases hzb : 0 ≤ z ∧ z < (N : Int)
      · have HY := Lib.hid (below_yes z N hzb.1 hzb.2)
        have hz0 := hzb.1
        have hz1 := hzb.2
        obtain ⟨y, rfl⟩ : ∃ y : Nat, z = (y : Int) := ⟨z.toNat, by omega⟩
        have tc := HROW.out.cell (i := y * 3 + 2) (by omega)
        rw [bcell_2] at tc
        have tf := HROW.out.frozen (y * 3 + 2)
        clear hzk hzb
        go_wp2_with fail
        refine (HY.out _).mono ?_
        rintro e wq ⟨rfl, hw⟩
        subst wq
        go_wp2
        go_roundw
        case measure => simp [intOf]; omega
        case rel =>
          refine ⟨k + 1, by go_num, by omega, fun q hq => ?_, ?_, ?_, HBW.out.setCell (Nat.le_of_lt hgs) _⟩
          · obtain ⟨hl, hzq⟩ := List.getElem?_eq_some_iff.1 HZK.out
            rw [List.take_succ_eq_append_getElem hl] at hq
            rcases List.mem_append.1 hq with hq | hq
            · exact HALL.out q hq
            · rw [List.mem_singleton.1 hq, hzq]
              exact ⟨hz0, hz1⟩
          · refine (HROW.out.set (y * 3 + 2) (.bool true)).congr fun i _ => ?_
            rw [rtOf_step HZK.out hz0]
            exact bcell_rt (fresh (rtOf zs k)) y true i
          · have hgc := grown_setCell wr ⟨gb, y * 3 + 2, none⟩ (.bool true)
            have hne : ∀ i : Nat, some (⟨w.heap.size, i, none⟩ : Addr).block ≠ some gb := fun i e => by injection e with e; simp at e; omega
            obtain ⟨k0, k1, k2, k3, k4⟩ := HGEO.out
            exact ⟨hgc.cell k0 (hne 0), hgc.cell k1 (hne 1), hgc.cell k2 (hne 2), hgc.cell k3 (hne 3), hgc.cell k4 (hne 4)⟩
      · have HY := Lib.hid (below_no z N hzb)
        have HZB := Lib.hid hzb
        clear hzk hzb
        go_wp2_with fail
        refine (HY.out _).mono ?_
        rintro e wq ⟨rfl, hw⟩
        subst wq
        go_wp2
        go_ret2
        exact ⟨Or.inr ⟨fun h => HZB.out (h z (List.mem_of_getElem? HZK.out)), rfl⟩, HBW.out⟩
    · obtain rfl : k = n := by omega
      obtain ⟨k0, k1, k2, k3, k4⟩ := HGEO.out
      have hmm := @run_makeMap Try.prog
      have HPN := Lib.hid (fun w => PlanPkg.New_any none 0 0 0 [] w (by omega) ⟨rfl, fun i hi => absurd hi (by simp)⟩ (Nat.zero_le _))
      have hgr := HROW.out.lt
      have HB : Hid (Below wr.heap.size wr wr.drew) := Lib.hid (Below.refl _ _).drew
      go_wp2_with fail
      go_region_held3 (fun w' => w'.cell? ⟨w.heap.size, 0, none⟩ = some (.int .i64 G.c) ∧ w'.cell? ⟨w.heap.size, 1, none⟩ = some (.int .i64 G.l) ∧ w'.cell? ⟨w.heap.size, 2, none⟩ = some (.int .i64 G.k) ∧ w'.cell? ⟨w.heap.size, 3, none⟩ = some (.int .i64 G.p) ∧ w'.cell? ⟨w.heap.size, 4, none⟩ = some (.int .i64 G.s))
        (first | exact ⟨k0, k1, k2, k3, k4⟩ | exact geo_keep (by assumption) hb | exact geo_keep (by assumption) ((Below.refl _ _).alloc (Nat.le_refl _) _) | go_keep)
        (first
          | (go_at_call 40; refine (HPN.out _).mono ?_; rintro e w4 ⟨gp, rfl, hgp, hp, hb⟩))
      · rename_i hHeld
        clear hHeld
        go_wp2
        go_ret2
        have hbw := below_then HBW.out.drew hb
        have hsz := hb.size
        have hsz2 : wr.drew.heap.size = wr.heap.size := rfl
        rw [hsz2] at hsz hgp hp
        have hpl := hp.lt
        have HNN := HN.out
        subst HNN
        have hx : Below w4.heap.size w4 (w4.alloc (.map #[] 0)) := (Below.refl _ _).alloc (Nat.le_refl _) _
        have hrw : (w4.alloc (.map #[] 0)).rowIs gb 77 (cnt G * 3) (bcell (fresh (rtOf zs zs.length))) := by
          rw [HZ.out.1]
          exact (HROW.out.of_block (hb.block gb hgr)).alloc _
        have hdev := dev_new (G := G) (gm := w4.heap.size) (lo := wr.heap.size) hrw (hp.below hx hgp) hgp (Dict.made w4 _) (by omega) (by omega) (by omega)
        have hss : (w4.alloc (.map #[] 0)).heap.size = w4.heap.size + 1 := by simp
        rw [hss] at hdev
        refine ⟨Or.inl ⟨?_, ⟨w4.heap.size + 1, gb, w4.heap.size, wr.heap.size, gp, fun _ => False⟩, rfl, hdev, ?_⟩, ?_⟩
        · have hall := HALL.out
          rw [List.take_of_length_le (by rw [HZ.out.1]; exact Nat.le_refl _)] at hall
          exact hall
        · have := HBW.out.size
          rintro b (h | h | h | h | h)
          · have h : b = w4.heap.size + 1 := h
            omega
          · have h : b = gb := h
            omega
          · have h : b = w4.heap.size := h
            omega
          · have h : wr.heap.size ≤ b ∧ b ≤ gp := h
            omega
          · exact h.elim
        · exact (hbw.alloc hbw.size _).alloc (by simp; have := hbw.size; omega) _
      · rename_i hHeld
        clear hHeld
        go_wp2
        go_ret2
        have hb0 : Below w.heap.size w (wr.alloc (.map #[] 0)).drew := (HBW.out.alloc HBW.out.size _).drew
        have hmd : Dict w4 wr.heap.size G.N.toNat (fun _ => none) := (Dict.made wr G.N.toNat).keep (hb.block _ (by simp))
        have hrw : w4.rowIs gb 77 (N * 3) (bcell (fresh (rtOf zs zs.length))) := by
          rw [HZ.out.1]
          exact (HROW.out.alloc (.map #[] 0)).of_block (hb.block gb (by simp; omega))
        have hbw := below_then hb0 hb
        have hsz := hb.size
        have hsz2 : (wr.alloc (.map #[] 0)).drew.heap.size = wr.heap.size + 1 := by simp
        rw [hsz2] at hsz hgp hp
        have hpl := hp.lt
        have HNN := HN.out
        subst HNN
        refine ⟨Or.inl ⟨?_, ⟨w4.heap.size, gb, wr.heap.size, wr.heap.size + 1, gp, fun _ => False⟩, rfl, dev_new (G := G) (gm := wr.heap.size) (lo := wr.heap.size + 1) hrw hp hgp hmd (by omega) (by omega) (by omega), ?_⟩, ?_⟩
        · have hall := HALL.out
          rw [List.take_of_length_le (by rw [HZ.out.1]; exact Nat.le_refl _)] at hall
          exact hall
        · have := HBW.out.size
          rintro b (h | h | h | h | h)
          · have h : b = w4.heap.size := h
            omega
          · have h : b = gb := h
            omega
          · have h : b = wr.heap.size := h
            omega
          · have h : wr.heap.size + 1 ≤ b ∧ b ≤ gp := h
            omega
          · exact h.elim
        · exact hbw.alloc hbw.size _
end

end Go.Proofs.Ytlmdlhfdacmcnaa.NandPkg
