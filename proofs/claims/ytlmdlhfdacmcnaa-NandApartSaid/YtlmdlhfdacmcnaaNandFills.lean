/-
  What tells, in package nand, whether there is one for each sector of a page, each of a size.
-/
import Derived.Test.YtlmdlhfdacmcnaaNandWalks
namespace Go.Proofs.Ytlmdlhfdacmcnaa.NandPkg
open Go.RowKit Nand
set_option maxRecDepth 4000

/-- A slice of slices of bytes that lie in blocks of D. -/
def Lies (w : World) (D : Nat → Prop) (A : Option Addr) (n : Nat) (ls : List (List UInt8)) : Prop :=
  ls.length = n ∧ ∀ i (h : i < ls.length), ∃ b off A' n' c', A = some ⟨b, off, none⟩ ∧ D b ∧ w.cell? ⟨b, off + i, none⟩ = some (.slice A' n' c') ∧ n' ≤ 100 ∧ Lie w D A' n' ls[i]

theorem Lies.keep {w w' : World} {D D' : Nat → Prop} {A : Option Addr} {n : Nat} {ls : List (List UInt8)} (h : Lies w D A n ls) (hd : ∀ b, D b → D' b) (hk : ∀ b, D b → w'.heap[b]? = w.heap[b]?) : Lies w' D' A n ls :=
  ⟨h.1, fun i hi => by
    obtain ⟨b, off, A', n', c', e, hb, hc, hn, hl⟩ := h.2 i hi
    exact ⟨b, off, A', n', c', e, hd b hb, (World.cell?_of_block (w := w) (hk b hb)).trans hc, hn, hl.keep hd hk⟩⟩

theorem Lies.at_ {w : World} {D : Nat → Prop} {A : Option Addr} {n : Nat} {ls : List (List UInt8)} (h : Lies w D A n ls) {i : Nat} (hi : i < n) :
    ∃ b off A' n' c' xs, A = some ⟨b, off, none⟩ ∧ D b ∧ w.cell? ⟨b, off + i, none⟩ = some (.slice A' n' c') ∧ n' ≤ 100 ∧ Lie w D A' n' xs ∧ ls[i]? = some xs := by
  have hi2 : i < ls.length := by rw [h.1]; exact hi
  obtain ⟨b, off, A', n', c', e, hb, hc, hn, hl⟩ := h.2 i hi2
  exact ⟨b, off, A', n', c', ls[i], e, hb, hc, hn, hl, List.getElem?_eq_getElem hi2⟩

/-- The first ones: a slice expression. -/
theorem Lies.take {w : World} {D : Nat → Prop} {A : Option Addr} {n : Nat} {ls : List (List UInt8)} (h : Lies w D A n ls) {m : Nat} (hm : m ≤ n) : Lies w D A m (ls.take m) :=
  ⟨by rw [List.length_take, h.1]; omega, fun i hi => by
    rw [List.length_take] at hi
    obtain ⟨b, off, A', n', c', e, hb, hc, hn, hl⟩ := h.2 i (by omega)
    exact ⟨b, off, A', n', c', e, hb, hc, hn, by rw [List.getElem_take]; exact hl⟩⟩

section
variable {w : World} {D : Nat → Prop}

theorem other_any (A : Option Addr) (n c : Nat) (z : Int) (bz : Nat) (hz : w.cell? ⟨bz, 0, none⟩ = some (.int .i64 z)) :
    Calls Try.prog 77 #[.slice A n c, ptr bz] w fun e w' => e = .returned (.bool ((n : Int) != z)) ∧ w' = w := by
  go_enter Try.func77, Try.ntmps77
  go_wp2
  go_ret
  exact ⟨rfl, rfl⟩

theorem index_any (A : Option Addr) (n c : Nat) (ls : List (List UInt8)) (z bz : Nat) (hn : n ≤ 100) (hz : w.cell? ⟨bz, 0, none⟩ = some (.int .i64 (z : Int))) (hl : Lies w D A n ls) :
    Calls Try.prog 79 #[.slice A n c, .func (.func 77) #[] #[ptr bz]] w fun e w' => (∃ r : Int, e = .returned (.int .i64 r) ∧ ((∀ x ∈ ls, x.length = z) → r = -1) ∧ (¬ (∀ x ∈ ls, x.length = z) → 0 ≤ r)) ∧ w' = w := by
  go_enter Try.func79, Try.ntmps79
  go_wp2
  go_loop [8] (fun i => ∃ k : Nat, k ≤ n ∧ i = .int .i64 k ∧ ∀ j (h : j < ls.length), j < k → (ls[j]).length = z) (fun i => n - (intOf i).toNat)
  case atStart => exact ⟨0, by omega, rfl, fun j _ h => by omega⟩
  case round =>
    obtain ⟨k, hk, rfl, hall⟩ := hrel
    have HALL := Lib.hid hall
    clear hall
    by_cases hlt : k < n
    · obtain ⟨b, off, A', n', c', xs, rfl, _, hc, hn', hx, hls⟩ := hl.at_ hlt
      have HX := Lib.hid hx
      have HLS := Lib.hid hls
      have HL := Lib.hid hl
      have HC := Lib.hid (other_any A' n' c' z bz hz)
      clear hx hl hls
      by_cases he : n' = z
      · have hb : ((n' : Int) != (z : Int)) = false := by simp [he]
        rw [hb] at HC
        have HE := Lib.hid he
        clear he
        go_wp2_with fail
        refine HC.out.mono ?_
        rintro e w2 ⟨rfl, rfl⟩
        go_wp2
        go_round
        case rel =>
          refine ⟨k + 1, by omega, by go_num, fun j hj hjk => ?_⟩
          rcases Nat.lt_or_ge j k with h | h
          · exact HALL.out j hj h
          · obtain rfl : j = k := by omega
            obtain ⟨h1, h2⟩ := List.getElem?_eq_some_iff.1 HLS.out
            rw [h2, HX.out.1]
            exact HE.out
        case measure => simp [intOf]; omega
      · have hb : ((n' : Int) != (z : Int)) = true := by simp; omega
        rw [hb] at HC
        have HE := Lib.hid he
        clear he
        go_wp2_with fail
        refine HC.out.mono ?_
        rintro e w2 ⟨rfl, rfl⟩
        go_wp2
        go_ret
        refine ⟨⟨k, rfl, fun h => ?_, fun _ => by omega⟩, rfl⟩
        exact absurd ((HX.out.1).symm.trans (h xs (List.mem_of_getElem? HLS.out))) HE.out
    · obtain rfl : k = n := by omega
      have HL := Lib.hid hl
      clear hl
      go_wp2
      go_ret
      have hall : ∀ x ∈ ls, x.length = z := fun x hx => by
        obtain ⟨j, hj, rfl⟩ := List.getElem_of_mem hx
        exact HALL.out j hj (by rw [← HL.out.1]; exact hj)
      refine ⟨⟨-1, rfl, fun _ => rfl, ?_⟩, rfl⟩
      first
        | exact fun x hx hne => absurd (hall x hx) hne
        | exact fun hno => absurd hall hno

theorem contains_any (A : Option Addr) (n c : Nat) (ls : List (List UInt8)) (z bz : Nat) (hn : n ≤ 100) (hz : w.cell? ⟨bz, 0, none⟩ = some (.int .i64 (z : Int))) (hl : Lies w D A n ls) :
    Calls Try.prog 78 #[.slice A n c, .func (.func 77) #[] #[ptr bz]] w fun e w' => e = .returned (.bool (!decide (∀ x ∈ ls, x.length = z))) ∧ w' = w := by
  have HC := Lib.hid (index_any A n c ls z bz hn hz hl)
  clear hl
  generalize hp : decide (∀ x ∈ ls, x.length = z) = q
  have HP := Lib.hid hp
  clear hp
  go_enter Try.func78, Try.ntmps78
  go_wp2_with fail
  refine HC.out.mono ?_
  rintro e w2 ⟨⟨r, rfl, h1, h2⟩, rfl⟩
  have HR : decide (0 ≤ r) = !q := by
    have hp := HP.out
    cases q with
    | true =>
      have := h1 (of_decide_eq_true hp)
      simp
      omega
    | false =>
      have := h2 (of_decide_eq_false hp)
      simp
      omega
  clear h1 h2
  go_wp2
  go_ret
  exact ⟨rfl, rfl⟩

theorem fills_any {G : Shape} {P : Pl} {st : St} (h : Dev G w P st) (A : Option Addr) (n c : Nat) (ls : List (List UInt8)) (z : Nat) (hn : n ≤ 100) (hl : Lies w D A n ls) (hD : ∀ b, D b → b < w.heap.size) :
    Calls Try.prog 67 #[ptr P.g, .slice A n c, .int .i64 (z : Int)] w fun e w' => e = .returned (.bool (decide (fit ls G.s z))) ∧ Below w.heap.size w w' := by
  have hb0 := (Below.refl w.heap.size w).alloc (Nat.le_refl _) (.cells #[.int .i64 (z : Int)] 3)
  have h5 := (h.below hb0).cells.2.2.2.2.2.1
  have hz : (w.alloc (.cells #[.int .i64 (z : Int)] 3)).cell? ⟨w.heap.size, 0, none⟩ = some (.int .i64 (z : Int)) := by simp
  have HC := Lib.hid (contains_any (w := w.alloc (.cells #[.int .i64 (z : Int)] 3)) A n c ls z w.heap.size hn hz (hl.keep (D' := D) (fun _ h => h) (fun b hb => hb0.block b (hD b hb))))
  have HB := Lib.hid hb0
  have hmf : ∀ (fn : Fn) (first cap : Array Value) (w : World), (Instr.makeFunc fn first cap).run Try.prog w = .ok (.func fn first cap) w := fun _ _ _ _ => rfl
  have hls := hl.1
  have hfit : decide (fit ls G.s z) = (decide ((n : Int) = G.s) && decide (∀ x ∈ ls, x.length = z)) := by
    rw [Bool.eq_iff_iff]
    simp [fit, hls]
  rw [hfit]
  generalize decide (∀ x ∈ ls, x.length = z) = q at HC ⊢
  clear hl h hb0 hz hfit hls hD
  by_cases hs : (n : Int) = G.s
  · rw [decide_eq_true hs, Bool.true_and]
    have hbq : ((n : Int) == G.s) = true := by simpa using hs
    go_enter Try.func67, Try.ntmps67
    go_wp2_with fail
    refine HC.out.mono ?_
    rintro e w2 ⟨rfl, rfl⟩
    go_wp2
    go_ret
    exact ⟨by simp, HB.out⟩
  · rw [decide_eq_false hs, Bool.false_and]
    have hbq : ((n : Int) == G.s) = false := by simpa using hs
    go_enter Try.func67, Try.ntmps67
    go_wp2
    go_ret
    exact ⟨rfl, HB.out⟩
end

end Go.Proofs.Ytlmdlhfdacmcnaa.NandPkg
