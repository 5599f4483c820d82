/-
  What the document's lines of layer 12 do: Release, Current, Count, Capacity, Close, Open.
-/
import Derived.Test.YtnnonkmkdjhacaaLinesRef
import Derived.BigQuiet
namespace Go.Proofs.Ytnnonkmkdjhacaa.LinesRef
open Go.RowKit Lines LinesPkg
open Nand (Shape upd upd_same upd_other)
set_option maxRecDepth 4000

theorem draws_below (w : World) (k : Nat) : Below w.heap.size w (w.drewN k) := ⟨rfl, rfl, rfl, Nat.le_refl _, fun _ _ => rfl⟩

section
variable {G : Shape} {n : Nat} {w w' : World} {P : Pl} {f : St}

set_option maxHeartbeats 2000000 in
theorem Release_any (h : Rf G n w P f) (line : Int) :
    Calls Try.prog 37 #[ptr P.g 0, .int .i64 line] w fun e w' => e = .returned (.int .i64 (chg f n line 2)) ∧ Rf G n w' P (doAt f n line 2 free) ∧ w.grownBy w' (some P.L) := by
  have HI := Lib.hid (is_any h line 2)
  have H := Lib.hid h
  obtain ⟨_, _, _, _, _, c5⟩ := h.cells
  have hn := h.n1
  unfold doAt
  by_cases h0 : chg f n line 2 = 0
  · rw [if_pos h0]
    obtain ⟨i, hi, rfl, hs⟩ := chg_ok h0
    rw [h0] at HI ⊢
    rw [Int.toNat_natCast]
    obtain ⟨c0, _, c2, f0, _⟩ := h.at hi
    have HE : Hid (Rf G n (w.drew.setCell ⟨P.L, i * 5, none⟩ (.int .i64 (freeSt (f i).gd))) P (upd f i (free (f i)))) := Lib.hid ((h.below (Below.refl _ _).drew).set1 hi (inv_free h.inv hi) (show 0 < 3 by omega) rfl)
    have HF := Lib.hid (fun w => free_any (f i).gd w)
    have h1 : (i : Int) < n := by omega
    have c5d : w.drew.cell? ⟨P.g, 5, none⟩ = some (.slice (some ⟨P.L, 0, none⟩) n P.c) := c5
    have c0d : w.drew.cell? ⟨P.L, i * 5, none⟩ = some (.int .i64 (f i).st) := c0
    have c2d : w.drew.cell? ⟨P.L, i * 5 + 2, none⟩ = some (.int .i64 (f i).gd) := c2
    have f0d : w.drew.frozen? ⟨P.L, i * 5, none⟩ = false := f0
    generalize freeSt (f i).gd = z at *
    generalize (f i).gd = x at *
    generalize (f i).st = y at *
    clear h h0 hs
    go_enter Try.func37, Try.ntmps37
    go_wp2_with fail
    refine HI.out.mono ?_
    rintro e w2 ⟨rfl, hw⟩; subst w2
    go_wp2
    go_region_with (first | (go_at_call 30; refine (HF.out _).mono ?_; rintro e w3 ⟨rfl, hw⟩; subst w3))
    all_goals go_wp2
    all_goals go_ret
    all_goals exact ⟨rfl, HE.out, below_grown (draws_below w 1) _ |> fun a => grown_trans a (grown_setCell _ _ _)⟩
  · rw [if_neg h0]
    generalize chg f n line 2 = q at *
    clear h
    go_enter Try.func37, Try.ntmps37
    go_wp2_with fail
    refine HI.out.mono ?_
    rintro e w2 ⟨rfl, hw⟩; subst w2
    go_wp2
    go_ret
    exact ⟨rfl, H.out, World.grownBy.refl _ _⟩

theorem cur_stop {f : St} {k n : Nat} (h : cur f k = -1) (hs : (f k).st = 1) (hn : k < n) : cur f n = k := by
  have e : cur f (k + 1) = k := by
    show (if cur f k = -1 then (if (f k).st = 1 then (k : Int) else -1) else cur f k) = k
    rw [if_pos h, if_pos hs]
  have : ∀ m, cur f (k + 1 + m) = k := fun m => by
    induction m with
    | zero => exact e
    | succ m ih =>
      show (if cur f (k + 1 + m) = -1 then _ else cur f (k + 1 + m)) = _
      rw [ih, if_neg (by omega)]
  have h2 := this (n - (k + 1))
  rwa [show k + 1 + (n - (k + 1)) = n by omega] at h2

theorem cur_pass {f : St} {k : Nat} (h : cur f k = -1) (hs : (f k).st ≠ 1) : cur f (k + 1) = -1 := by
  show (if cur f k = -1 then (if (f k).st = 1 then (k : Int) else -1) else cur f k) = -1
  rw [if_pos h, if_neg hs]

theorem Current_any (h : Rf G n w P f) :
    Calls Try.prog 33 #[ptr P.g 0] w fun e w' => e = .returned (.int .i64 (cur f n)) ∧ w' = w := by
  have H := Lib.hid h
  obtain ⟨_, _, _, _, _, c5⟩ := h.cells
  have hn := h.n1
  clear h
  go_enter Try.func33, Try.ntmps33
  go_wp2
  go_loopw [3] (fun i wr => ∃ k : Nat, i = .int .i64 (k : Int) ∧ k ≤ n ∧ cur f k = -1 ∧ wr = w) (fun i _ => n - (intOf i).toNat)
  case atStart => exact ⟨0, rfl, Nat.zero_le _, rfl, rfl⟩
  case round =>
    obtain ⟨k, rfl, hk, hc, rfl⟩ := hrel
    by_cases hlt : k < n
    · obtain ⟨c0, _⟩ := H.out.at hlt
      have HC := Lib.hid hc
      clear hc
      by_cases hs : (f k).st = 1
      · have HS := Lib.hid (cur_stop HC.out hs hlt)
        rw [hs] at c0
        clear hs
        go_wp2
        go_ret
        exact ⟨congrArg (fun z => Ending.returned (.int .i64 z)) HS.out.symm, rfl⟩
      · have HS := Lib.hid (cur_pass HC.out hs)
        generalize (f k).st = s at *
        go_wp2
        go_roundw
        case rel => exact ⟨k + 1, by go_num, by omega, HS.out, by trivial⟩
        case measure => simp [intOf]; omega
    · obtain rfl : k = n := by omega
      have HC := Lib.hid hc
      clear hc
      go_wp2
      go_ret
      exact ⟨congrArg (fun z => Ending.returned (.int .i64 z)) HC.out.symm, rfl⟩

theorem Count_any (h : Rf G n w P f) (s : Int) :
    Calls Try.prog 32 #[ptr P.g 0, .int .i64 s] w fun e w' => e = .returned (.int .i64 (cnt f s n)) ∧ w' = w := by
  have H := Lib.hid h
  obtain ⟨_, _, _, _, _, c5⟩ := h.cells
  have hn := h.n1
  clear h
  go_enter Try.func32, Try.ntmps32
  go_wp2
  go_loopw [5, 6] (fun m i wr => ∃ (k : Nat) (z : Int), i = .int .i64 (k : Int) ∧ m = .int .i64 z ∧ z = cnt f s k ∧ k ≤ n ∧ wr = w) (fun _ i _ => n - (intOf i).toNat)
  case atStart => exact ⟨0, 0, rfl, rfl, rfl, Nat.zero_le _, rfl⟩
  case round =>
    obtain ⟨k, z, rfl, rfl, hz, hk, rfl⟩ := hrel
    have hzb := cnt_bd f s k
    rw [← hz] at hzb
    have HZ := Lib.hid hz
    clear hz
    by_cases hlt : k < n
    · obtain ⟨c0, _⟩ := H.out.at hlt
      have HST := Lib.hid (show cnt f s (k + 1) = cnt f s k + (if (f k).st = s then 1 else 0) from rfl)
      by_cases hs : (f k).st = s
      · rw [if_pos hs] at HST
        rw [hs] at c0
        clear hs
        go_wp2
        go_roundw
        case rel => exact ⟨k + 1, z + 1, by go_num, by go_num, by rw [HST.out, ← HZ.out], by omega, by trivial⟩
        case measure => simp [intOf]; omega
      · rw [if_neg hs] at HST
        generalize (f k).st = t at *
        go_wp2
        go_roundw
        case rel => exact ⟨k + 1, z, by go_num, rfl, by rw [HST.out, ← HZ.out]; omega, by omega, by trivial⟩
        case measure => simp [intOf]; omega
    · obtain rfl : k = n := by omega
      go_wp2
      go_ret
      exact ⟨congrArg (fun z => Ending.returned (.int .i64 z)) HZ.out, rfl⟩

theorem seven_keep {w w' : World} {a0 a1 a2 a3 a4 a5 a6 : Addr} {v0 v1 v2 v3 v4 v5 v6 : Value} (h : w.cell? a0 = some v0 ∧ w.cell? a1 = some v1 ∧ w.cell? a2 = some v2 ∧ w.cell? a3 = some v3 ∧ w.cell? a4 = some v4 ∧ w.cell? a5 = some v5 ∧ w.cell? a6 = some v6) (hb : Below w.heap.size w w') :
    w'.cell? a0 = some v0 ∧ w'.cell? a1 = some v1 ∧ w'.cell? a2 = some v2 ∧ w'.cell? a3 = some v3 ∧ w'.cell? a4 = some v4 ∧ w'.cell? a5 = some v5 ∧ w'.cell? a6 = some v6 :=
  ⟨cell_stays hb h.1, cell_stays hb h.2.1, cell_stays hb h.2.2.1, cell_stays hb h.2.2.2.1, cell_stays hb h.2.2.2.2.1, cell_stays hb h.2.2.2.2.2.1, cell_stays hb h.2.2.2.2.2.2⟩

set_option maxHeartbeats 2000000 in
theorem Capacity_any (h : Rf G n w P f) :
    Calls Try.prog 34 #[ptr P.g 0] w fun e w' => e = .returned (.int .i64 (cap G f n)) ∧ Below w.heap.size w w' := by
  have H := Lib.hid h
  have hn := h.n1
  clear h
  go_enter Try.func34, Try.ntmps34
  go_wp2
  go_loopw [3, 4] (fun m i wr => ∃ (k : Nat) (z : Int), i = .int .i64 (k : Int) ∧ m = .int .i64 z ∧ z = cap G f k ∧ k ≤ n ∧ Below w.heap.size w wr) (fun _ i _ => n - (intOf i).toNat)
  case atStart => exact ⟨0, 0, rfl, rfl, rfl, Nat.zero_le _, Below.refl _ _⟩
  case round =>
    obtain ⟨k, z, rfl, rfl, hz, hk, hbw⟩ := hrel
    have hzb := cap_bd H.out.ok H.out.inv.gd k hk
    rw [← hz] at hzb
    have HZ := Lib.hid hz
    have HB := Lib.hid hbw.drew
    have HP := H.out.below hbw
    have HB0 := Lib.hid hbw
    clear hz hbw
    obtain ⟨k0, k1, k2, k3, k4, k5⟩ := HP.cells
    by_cases hlt : k < n
    · obtain ⟨_, _, c2, _⟩ := HP.at hlt
      have hg := HP.inv.gd k hlt
      have hr := room_bd HP.ok hg.1 hg.2
      have HST := Lib.hid (show cap G f (k + 1) = cap G f k + room G (f k).gd from rfl)
      have HR := Lib.hid (fun w => Room_any HP.ok (f k).gd hg.1 hg.2 w)
      have hr2 : 0 ≤ room G (f k).gd ∧ room G (f k).gd ≤ 1024 := ⟨hr.1, hr.2.1⟩
      have HC : Hid (wr.drew.cell? ⟨P.g, 0, none⟩ = some (.int .i64 G.c) ∧ wr.drew.cell? ⟨P.g, 1, none⟩ = some (.int .i64 G.l) ∧ wr.drew.cell? ⟨P.g, 2, none⟩ = some (.int .i64 G.k) ∧ wr.drew.cell? ⟨P.g, 3, none⟩ = some (.int .i64 G.p) ∧ wr.drew.cell? ⟨P.g, 4, none⟩ = some (.int .i64 G.s) ∧ wr.drew.cell? ⟨P.g, 5, none⟩ = some (.slice (some ⟨P.L, 0, none⟩) n P.c) ∧ wr.drew.cell? ⟨P.L, k * 5 + 2, none⟩ = some (.int .i64 (f k).gd)) := Lib.hid ⟨k0, k1, k2, k3, k4, k5, c2⟩
      clear HP hr hg
      generalize room G (f k).gd = r at *
      generalize (f k).gd = x at *
      go_wp2_with fail
      go_region_held3 (fun w' => w'.cell? ⟨P.g, 0, none⟩ = some (.int .i64 G.c) ∧ w'.cell? ⟨P.g, 1, none⟩ = some (.int .i64 G.l) ∧ w'.cell? ⟨P.g, 2, none⟩ = some (.int .i64 G.k) ∧ w'.cell? ⟨P.g, 3, none⟩ = some (.int .i64 G.p) ∧ w'.cell? ⟨P.g, 4, none⟩ = some (.int .i64 G.s) ∧ w'.cell? ⟨P.g, 5, none⟩ = some (.slice (some ⟨P.L, 0, none⟩) n P.c) ∧ w'.cell? ⟨P.L, k * 5 + 2, none⟩ = some (.int .i64 x))
        (first | exact HC.out | exact seven_keep (by assumption) hb | go_keep)
        (first | (go_at_call 55; refine (HR.out _).mono ?_; rintro e w2 ⟨rfl, hb⟩; replace HB := Lib.hid (below_then HB.out hb)))
      go_wp2
      go_roundw
      case rel => exact ⟨k + 1, z + r, by go_num, by rw [kwrap_is (by omega) (by omega)], by rw [HST.out, ← HZ.out], by omega, HB.out⟩
      case measure => simp [intOf]; omega
    · obtain rfl : k = n := by omega
      clear HP
      go_wp2
      go_ret
      exact ⟨congrArg (fun z => Ending.returned (.int .i64 z)) HZ.out, HB0.out⟩

def pairV (q : Int × Int) : Value := .tuple #[.int .i64 q.1, .int .i64 q.2]

theorem Close_any (h : Rf G n w P f) :
    Calls Try.prog 36 #[ptr P.g 0] w fun e w' => e = .returned (pairV (closeR f n)) ∧ Rf G n w' P (closeS f n) ∧ Turn P.own P.own w w' := by
  have H := Lib.hid h
  have HC := Lib.hid (Current_any h)
  obtain ⟨_, _, _, _, _, c5⟩ := h.cells
  have hn := h.n1
  unfold closeR closeS
  rcases cur_cases f n with ⟨hc, _⟩ | ⟨i, hi, he, hs⟩
  · rw [if_pos hc, if_pos hc]
    rw [hc] at HC
    clear h hc
    go_enter Try.func36, Try.ntmps36
    go_wp2_with fail
    refine HC.out.mono ?_
    rintro e w2 ⟨rfl, hw⟩; subst w2
    go_wp2
    go_ret2
    exact ⟨rfl, H.out, Turn.refl _ _⟩
  · rw [if_neg (by omega), if_neg (by omega)]
    rw [he] at HC ⊢
    rw [Int.toNat_natCast]
    obtain ⟨c0, _, _, f0, _⟩ := h.at hi
    have HE : Hid (Rf G n (w.setCell ⟨P.L, i * 5, none⟩ (.int .i64 2)) P (upd f i (shut (f i)))) := Lib.hid (h.set1 hi (inv_shut h.inv hi) (show 0 < 3 by omega) rfl)
    have h1 : (i : Int) < n := by omega
    have h2 : ¬ (i : Int) < 0 := by omega
    clear h he hs
    go_enter Try.func36, Try.ntmps36
    go_wp2_with fail
    refine HC.out.mono ?_
    rintro e w2 ⟨rfl, hw⟩; subst w2
    go_wp2
    go_ret2
    exact ⟨rfl, HE.out, grown_turn (grown_setCell _ _ _) (.inr rfl)⟩
end
end Go.Proofs.Ytnnonkmkdjhacaa.LinesRef
