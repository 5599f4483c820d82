/-
  What the document's queues do: first, Len, Busy.
-/
import Derived.Test.YtkpneckgpolaoaaQueueRefA
namespace Go.Proofs.Ytkpneckgpolaoaa.QueueRef
open Go.RowKit Queue QueuePkg
set_option maxRecDepth 4000

/-- The place of a channel's first job, or -1. -/
def Found (l : List Ld) (c z : Int) : Prop := (z = -1 ∧ ∀ x ∈ l, here c x = false) ∨ ∃ (i : Nat) (x : Ld), z = i ∧ Fst l c i x

/-- The cells that a look at a job reads. -/
theorem Rs.look {w : World} {P : Pl} {ch : Int} {rs : List Rw} (h : Rs w P ch rs) {A : Option Addr} {n k : Nat} (hv : P.v = .slice A n k) {i : Nat} {r : Rw} (hr : rs[i]? = some r) :
    ∃ b, A = some ⟨b, 0, none⟩ ∧ w.cell? ⟨b, i * 7, none⟩ = some (.int .i64 r.x.c) ∧ w.cell? ⟨b, i * 7 + 1, none⟩ = some (.int .i64 r.x.j.k) ∧ w.cell? ⟨b, i * 7 + 1 + 1, none⟩ = some (.int .i64 r.x.j.l) ∧ w.cell? ⟨b, i * 7 + 1 + 2, none⟩ = some (.int .i64 r.x.j.u) ∧ w.cell? ⟨b, i * 7 + 1 + 3, none⟩ = some (.int .i64 r.x.j.p) ∧ w.cell? ⟨b, i * 7 + 1 + 4, none⟩ = some r.v ∧ w.cell? ⟨b, i * 7 + 6, none⟩ = some (.bool r.x.gone) ∧ w.frozen? ⟨b, i * 7 + 6, none⟩ = false := by
  obtain ⟨b, c, h1, _, _, _, _, h2⟩ := h.at_ hr
  rw [hv] at h1
  injection h1 with h1
  have c0 := (h2 0 _ rfl).1
  rw [Nat.add_zero] at c0
  exact ⟨b, h1, c0, (h2 1 _ rfl).1, (h2 2 _ rfl).1, (h2 3 _ rfl).1, (h2 4 _ rfl).1, (h2 5 _ rfl).1, (h2 6 _ rfl).1, (h2 6 _ rfl).2⟩

theorem first_any {w : World} {P : Pl} {ch : Int} {rs : List Rw} (h : Rs w P ch rs) (c : Int) (hl : rs.length ≤ 1000000000) :
    Calls Try.prog 30 #[ptr P.g, .int .i64 c] w fun e w' => ∃ z : Int, e = .returned (.int .i64 z) ∧ w' = w ∧ Found (rs.map Rw.x) c z := by
  obtain ⟨A, k, hv, hnk, hk, _⟩ := h.slice
  obtain ⟨n, hn⟩ : ∃ n, rs.length = n := ⟨_, rfl⟩
  have HN := Lib.hid hn
  rw [hn] at hv hnk hl
  have HR := Lib.hid h
  have HV := Lib.hid hv
  obtain ⟨_, gc⟩ := h.cells
  rw [hv] at gc
  unfold maxLen at hk
  clear h hv hn
  go_enter Try.func30, Try.ntmps30
  go_wp2
  go_loopw [5] (fun i wr => ∃ j : Nat, j ≤ n ∧ i = .int .i64 (j : Int) ∧ wr = w ∧ Hid (∀ q < j, ∀ y, (rs.map Rw.x)[q]? = some y → here c y = false)) (fun i _ => n - (intOf i).toNat)
  case atStart => exact ⟨0, by omega, rfl, rfl, Lib.hid (fun q hq => absurd hq (by omega))⟩
  case round =>
    obtain ⟨j, hj, rfl, rfl, hno⟩ := hrel
    by_cases hjn : j < n
    · have hjn2 : (j : Int) < (n : Int) := by omega
      have hj0 : (0 : Int) ≤ (j : Int) := by omega
      obtain ⟨r, hr⟩ : ∃ r, rs[j]? = some r := ⟨_, List.getElem?_eq_getElem (by rw [HN.out]; exact hjn)⟩
      obtain ⟨b, rfl, k0, _, _, _, _, _, k6, _⟩ := HR.out.look HV.out hr
      obtain ⟨x, v⟩ := r
      have hx : (rs.map Rw.x)[j]? = some x := by rw [List.getElem?_map, hr]; rfl
      obtain ⟨xc, xj, xg⟩ := x
      dsimp only at k0 k6
      have HX := Lib.hid hx
      clear hr hx
      have hnext : here c ⟨xc, xj, xg⟩ = false → Hid (∀ q < j + 1, ∀ y, (rs.map Rw.x)[q]? = some y → here c y = false) := fun hh => Lib.hid (fun q hq y hy => by
        rcases Nat.lt_or_ge q j with h1 | h1
        · exact hno.out q h1 y hy
        · obtain rfl : q = j := by omega
          rw [HX.out] at hy
          injection hy with hy
          rw [← hy]
          exact hh)
      by_cases hc : xc = c
      · cases xg with
        | true =>
          have HT := hnext (by simp [here])
          clear hnext
          go_wp2
          go_roundw
          case rel => exact ⟨j + 1, by omega, by go_num, trivial, HT⟩
          case measure => simp [intOf]; omega
        | false =>
          have HF : Hid (Found (rs.map Rw.x) c (j : Int)) := Lib.hid (.inr ⟨j, _, rfl, HX.out, by simp [here, hc], hno.out⟩)
          clear hnext hno
          go_wp2
          go_ret
          exact ⟨j, rfl, rfl, HF.out⟩
      · have HT := hnext (by simp [here, hc])
        clear hnext
        go_wp2
        go_roundw
        case rel => exact ⟨j + 1, by omega, by go_num, trivial, HT⟩
        case measure => simp [intOf]; omega
    · obtain rfl : j = n := by omega
      have HF : Hid (Found (rs.map Rw.x) c (-1)) := Lib.hid (.inl ⟨rfl, fun x hx => by
        obtain ⟨q, hq⟩ := List.getElem?_of_mem hx
        exact hno.out q (by have := (List.getElem?_eq_some_iff.1 hq).1; rw [List.length_map, HN.out] at this; exact this) x hq⟩)
      clear hno
      go_wp2
      go_ret
      exact ⟨-1, rfl, rfl, HF.out⟩

theorem len_step {l : List Ld} {c : Int} {j : Nat} {x : Ld} (hx : l[j]? = some x) : (of (l.take (j + 1)) c).length = (of (l.take j) c).length + if here c x = true then 1 else 0 := by
  rw [List.take_add_one, hx, Option.toList_some, of_append, of_cons, of_nil, List.length_append]
  split <;> rfl

theorem many_step {l : List Ld} {z : Int} {j : Nat} {x : Ld} (hx : l[j]? = some x) : many (l.take (j + 1)) z = many (l.take j) z + if left z x = true then 1 else 0 := by
  rw [List.take_add_one, hx, Option.toList_some, many, many, List.filter_append, List.length_append]
  congr 1
  by_cases h : left z x = true
  · simp [h]
  · simp [h]

theorem rLen_any {w : World} {P : Pl} {ch : Int} {rs : List Rw} (h : Rs w P ch rs) (c : Int) (hl : rs.length ≤ 1000000000) :
    Calls Try.prog 24 #[ptr P.g, .int .i64 c] w fun e w' => e = .returned (.int .i64 (of (rs.map Rw.x) c).length) ∧ w' = w := by
  obtain ⟨A, k, hv, hnk, hk, _⟩ := h.slice
  obtain ⟨n, hn⟩ : ∃ n, rs.length = n := ⟨_, rfl⟩
  have HN := Lib.hid hn
  rw [hn] at hv hnk hl
  have HR := Lib.hid h
  have HV := Lib.hid hv
  obtain ⟨_, gc⟩ := h.cells
  rw [hv] at gc
  unfold maxLen at hk
  clear h hv hn
  go_enter Try.func24, Try.ntmps24
  go_wp2
  go_loopw [5, 6] (fun m i wr => ∃ j t : Nat, j ≤ n ∧ m = .int .i64 (t : Int) ∧ i = .int .i64 (j : Int) ∧ wr = w ∧ t ≤ j ∧ Hid ((of ((rs.map Rw.x).take j) c).length = t)) (fun _ i _ => n - (intOf i).toNat)
  case atStart => exact ⟨0, 0, by omega, rfl, rfl, rfl, by omega, Lib.hid rfl⟩
  case round =>
    obtain ⟨j, t, hj, rfl, rfl, rfl, htj, HT⟩ := hrel
    by_cases hjn : j < n
    · have hjn2 : (j : Int) < (n : Int) := by omega
      have hj0 : (0 : Int) ≤ (j : Int) := by omega
      obtain ⟨r, hr⟩ : ∃ r, rs[j]? = some r := ⟨_, List.getElem?_eq_getElem (by rw [HN.out]; exact hjn)⟩
      obtain ⟨b, rfl, k0, _, _, _, _, _, k6, _⟩ := HR.out.look HV.out hr
      obtain ⟨x, v⟩ := r
      have hx : (rs.map Rw.x)[j]? = some x := by rw [List.getElem?_map, hr]; rfl
      have HX := Lib.hid (len_step (c := c) hx)
      rw [HT.out] at HX
      obtain ⟨xc, xj, xg⟩ := x
      dsimp only at k0 k6
      clear hr hx HT
      by_cases hc : xc = c
      · cases xg with
        | true =>
          rw [if_neg (by simp [here])] at HX
          go_wp2
          go_roundw
          case rel => exact ⟨j + 1, t, by omega, rfl, by go_num, trivial, by omega, HX⟩
          case measure => simp [intOf]; omega
        | false =>
          rw [if_pos (by simp [here, hc])] at HX
          go_wp2
          go_roundw
          case rel => exact ⟨j + 1, t + 1, by omega, by go_num, by go_num, trivial, by omega, HX⟩
          case measure => simp [intOf]; omega
      · rw [if_neg (by simp [here, hc])] at HX
        go_wp2
        go_roundw
        case rel => exact ⟨j + 1, t, by omega, rfl, by go_num, trivial, by omega, HX⟩
        case measure => simp [intOf]; omega
    · obtain rfl : j = n := by omega
      rw [List.take_of_length_le (by rw [List.length_map, HN.out]; exact Nat.le_refl _)] at HT
      go_wp2
      go_ret
      exact ⟨by rw [HT.out]; rfl, rfl⟩

theorem rBusy_any {w : World} {P : Pl} {ch : Int} {rs : List Rw} (h : Rs w P ch rs) (z : Int) (hl : rs.length ≤ 1000000000) :
    Calls Try.prog 25 #[ptr P.g, .int .i64 z] w fun e w' => e = .returned (.int .i64 (many (rs.map Rw.x) z : Nat)) ∧ w' = w := by
  obtain ⟨A, k, hv, hnk, hk, _⟩ := h.slice
  obtain ⟨n, hn⟩ : ∃ n, rs.length = n := ⟨_, rfl⟩
  have HN := Lib.hid hn
  rw [hn] at hv hnk hl
  have HR := Lib.hid h
  have HV := Lib.hid hv
  obtain ⟨_, gc⟩ := h.cells
  rw [hv] at gc
  unfold maxLen at hk
  clear h hv hn
  go_enter Try.func25, Try.ntmps25
  go_wp2
  go_loopw [5, 6] (fun m i wr => ∃ j t : Nat, j ≤ n ∧ m = .int .i64 (t : Int) ∧ i = .int .i64 (j : Int) ∧ wr = w ∧ t ≤ j ∧ Hid (many ((rs.map Rw.x).take j) z = t)) (fun _ i _ => n - (intOf i).toNat)
  case atStart => exact ⟨0, 0, by omega, rfl, rfl, rfl, by omega, Lib.hid rfl⟩
  case round =>
    obtain ⟨j, t, hj, rfl, rfl, rfl, htj, HT⟩ := hrel
    by_cases hjn : j < n
    · have hjn2 : (j : Int) < (n : Int) := by omega
      have hj0 : (0 : Int) ≤ (j : Int) := by omega
      obtain ⟨r, hr⟩ : ∃ r, rs[j]? = some r := ⟨_, List.getElem?_eq_getElem (by rw [HN.out]; exact hjn)⟩
      obtain ⟨b, rfl, _, _, k2, _, _, _, k6, _⟩ := HR.out.look HV.out hr
      obtain ⟨x, v⟩ := r
      have hx : (rs.map Rw.x)[j]? = some x := by rw [List.getElem?_map, hr]; rfl
      have HX := Lib.hid (many_step (z := z) hx)
      rw [HT.out] at HX
      obtain ⟨xc, ⟨jk, jl, ju, jp, jd⟩, xg⟩ := x
      dsimp only at k2 k6
      clear hr hx HT
      by_cases hc : jl = z
      · cases xg with
        | true =>
          rw [if_neg (by simp [left])] at HX
          go_wp2
          go_roundw
          case rel => exact ⟨j + 1, t, by omega, rfl, by go_num, trivial, by omega, HX⟩
          case measure => simp [intOf]; omega
        | false =>
          rw [if_pos (by simp [left, hc])] at HX
          go_wp2
          go_roundw
          case rel => exact ⟨j + 1, t + 1, by omega, by go_num, by go_num, trivial, by omega, HX⟩
          case measure => simp [intOf]; omega
      · rw [if_neg (by simp [left, hc])] at HX
        go_wp2
        go_roundw
        case rel => exact ⟨j + 1, t, by omega, rfl, by go_num, trivial, by omega, HX⟩
        case measure => simp [intOf]; omega
    · obtain rfl : j = n := by omega
      rw [List.take_of_length_le (by rw [List.length_map, HN.out]; exact Nat.le_refl _)] at HT
      go_wp2
      go_ret
      exact ⟨by rw [HT.out]; rfl, rfl⟩

end Go.Proofs.Ytkpneckgpolaoaa.QueueRef
