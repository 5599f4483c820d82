/-
  A byte of a page that was built, turned: what the page then is, and what it tells.
-/
import Derived.Test.YteonjdigcecceaaPageKit
namespace Go.Proofs.Yteonjdigcecceaa.PageLaw
open Go.RowKit Go.ChangeShapes Go.WideShapes Page PagePkg
set_option maxRecDepth 4000

/-- A byte turned. -/
def turn (x : UInt8) (t : Int) : UInt8 := x ^^^ UInt8.ofNat t.toNat

theorem turn_is (x : UInt8) (t : Int) (h0 : 0 ≤ t) (h1 : t < 256) : bits .xor .u8 (x.toNat : Int) t = ((turn x t).toNat : Int) := by
  obtain ⟨n, rfl⟩ := Int.eq_ofNat_of_zero_le h0
  have h := u8_xor_nat x.toNat n x.toNat_lt (by omega)
  rw [h]
  unfold turn
  rw [UInt8.toNat_xor, UInt8.toNat_ofNat']
  simp
  rw [Nat.mod_eq_of_lt (by omega)]

theorem turn_ne (x : UInt8) (t : Int) (h0 : 0 < t) (h1 : t < 256) : turn x t ≠ x := by
  intro e
  unfold turn at e
  have h2 : x ^^^ (x ^^^ UInt8.ofNat t.toNat) = x ^^^ x := by rw [e]
  rw [← UInt8.xor_assoc] at h2
  simp at h2
  have h3 := congrArg UInt8.toNat h2
  rw [UInt8.toNat_ofNat'] at h3
  simp at h3
  omega

section
variable {w : World} {lo : Nat} {a b : Value} {rs : List Rw} {i : Nat} {r : Rw}

theorem modify_map {α β : Type} (l : List α) (i : Nat) (f : α → α) (g : α → β) (h : ∀ x, g (f x) = g x) : (l.modify i f).map g = l.map g := by
  apply List.ext_getElem?
  intro j
  rw [List.getElem?_map, List.getElem?_map, List.getElem?_modify]
  cases l[j]? with
  | none => rfl
  | some x =>
    by_cases e : i = j
    · simp [e, h]
    · simp [e]

theorem rw_x1 (rs : List Rw) (t k : Nat) (y : UInt8) : (rs.modify t (fun q => { q with d := q.d.set k y })).map Rw.x = rs.map Rw.x := modify_map rs t (fun q => { q with d := q.d.set k y }) Rw.x (fun _ => rfl)
theorem rw_y1 (rs : List Rw) (t k : Nat) (y : UInt8) : (rs.modify t (fun q => { q with d := q.d.set k y })).map Rw.y = rs.map Rw.y := modify_map rs t (fun q => { q with d := q.d.set k y }) Rw.y (fun _ => rfl)
theorem rw_c1 (rs : List Rw) (t k : Nat) (y : UInt8) : (rs.modify t (fun q => { q with d := q.d.set k y })).map Rw.c = rs.map Rw.c := modify_map rs t (fun q => { q with d := q.d.set k y }) Rw.c (fun _ => rfl)
theorem rw_x2 (rs : List Rw) (t k : Nat) (y : UInt8) : (rs.modify t (fun q => { q with c := q.c.set k y })).map Rw.x = rs.map Rw.x := modify_map rs t (fun q => { q with c := q.c.set k y }) Rw.x (fun _ => rfl)
theorem rw_y2 (rs : List Rw) (t k : Nat) (y : UInt8) : (rs.modify t (fun q => { q with c := q.c.set k y })).map Rw.y = rs.map Rw.y := modify_map rs t (fun q => { q with c := q.c.set k y }) Rw.y (fun _ => rfl)
theorem rw_d2 (rs : List Rw) (t k : Nat) (y : UInt8) : (rs.modify t (fun q => { q with c := q.c.set k y })).map Rw.d = rs.map Rw.d := modify_map rs t (fun q => { q with c := q.c.set k y }) Rw.d (fun _ => rfl)

theorem mem_modify {α : Type} {l : List α} {i : Nat} {f : α → α} {y : α} (h : y ∈ l.modify i f) : ∃ (j : Nat) (x : α), l[j]? = some x ∧ ((i = j ∧ y = f x) ∨ (i ≠ j ∧ y = x)) := by
  obtain ⟨j, hj⟩ := List.getElem?_of_mem h
  rw [List.getElem?_modify] at hj
  cases hx : l[j]? with
  | none => rw [hx] at hj; cases hj
  | some x =>
    rw [hx] at hj
    by_cases e : i = j
    · refine ⟨j, x, hx, .inl ⟨e, ?_⟩⟩
      simp [e] at hj
      exact hj.symm
    · refine ⟨j, x, hx, .inr ⟨e, ?_⟩⟩
      simp [e] at hj
      exact hj.symm

theorem pg_order (h : Pg w lo a b rs) {i j : Nat} {r q : Rw} (hr : rs[i]? = some r) (hq : rs[j]? = some q) (hij : i < j) : r.g < q.h := by
  obtain ⟨h1, rfl⟩ := List.getElem?_eq_some_iff.1 hr
  obtain ⟨h2, rfl⟩ := List.getElem?_eq_some_iff.1 hq
  exact List.pairwise_iff_getElem.1 h.rise i j h1 h2 hij

/-- The cells of a sector's two slices. -/
theorem pg_cells {A A' : Option Addr} {n n' c c' : Nat} (h : Pg w lo (.slice A n c) (.slice A' n' c') rs) (hr : rs[i]? = some r) : ∃ p p' u u', A = some ⟨p, 0, none⟩ ∧ A' = some ⟨p', 0, none⟩ ∧ w.cell? ⟨p, i, none⟩ = some (.slice (some ⟨r.g, 0, none⟩) r.d.length u) ∧ w.cell? ⟨p', i, none⟩ = some (.slice (some ⟨r.h, 0, none⟩) r.c.length u') ∧ r.d.length ≤ u ∧ r.c.length ≤ u' := by
  obtain ⟨l1, l2, _⟩ := h.lie r (List.mem_of_getElem? hr)
  obtain ⟨u, e1, e2, _⟩ := l1.form
  obtain ⟨u', e3, e4, _⟩ := l2.form
  obtain ⟨B1, _, f1, _, _, f4⟩ := h.own1.reads
  obtain ⟨B2, _, f1', _, _, f4'⟩ := h.own2.reads
  injection f1 with f1 _ _
  injection f1' with f1' _ _
  obtain ⟨p, g1, _, _, g2⟩ := f4 i r.x (by rw [List.getElem?_map, hr]; rfl)
  obtain ⟨p', g1', _, _, g2'⟩ := f4' i r.y (by rw [List.getElem?_map, hr]; rfl)
  exact ⟨p, p', u, u', f1.trans g1, f1'.trans g1', by rw [← e1]; exact g2, by rw [← e3]; exact g2', e2, e4⟩

theorem pg_bys {A A' : Option Addr} {n n' c c' : Nat} (h : Pg w lo (.slice A n c) (.slice A' n' c') rs) : Bys w w.heap.size A n (rs.map Rw.d) ∧ Bys w w.heap.size A' n' (rs.map Rw.c) := by
  obtain ⟨B, q, B', q', e1, e2, _, _, _, _, h1, h2⟩ := h.reads
  injection e1 with a1 a2 _
  injection e2 with b1 b2 _
  subst a1 a2 b1 b2
  exact ⟨h1, h2⟩

theorem rise_modify (h : rs.Pairwise (fun r r' => r.g < r'.h)) (f : Rw → Rw) (hg : ∀ x, (f x).g = x.g) (hh : ∀ x, (f x).h = x.h) : (rs.modify i f).Pairwise (fun r r' => r.g < r'.h) := by
  rw [List.pairwise_iff_getElem] at h ⊢
  intro p q hp hq hpq
  rw [List.getElem_modify, List.getElem_modify]
  rw [List.length_modify] at hp hq
  have := h p q hp hq hpq
  split <;> split <;> simpa only [hg, hh] using this

/-- A byte of a sector laid anew. -/
theorem pg_set1 (h : Pg w lo a b rs) (hr : rs[i]? = some r) (k : Nat) (y : UInt8) : Pg (w.setCell ⟨r.g, k, none⟩ (.int .u8 (y.toNat : Int))) lo a b (rs.modify i (fun q => { q with d := q.d.set k y })) := by
  have hlr := h.lie r (List.mem_of_getElem? hr)
  refine ⟨?_, ?_, fun q hq => ?_, rise_modify h.rise _ (fun _ => rfl) (fun _ => rfl), h.apart⟩
  · rw [rw_x1]
    exact h.own1.keep fun m hm => Below.heap_setCell _ _ _ _ (fun e => lies_ne h.own1 hlr.1 (by rw [hm, e]))
  · rw [rw_y1]
    exact h.own2.keep fun m hm => Below.heap_setCell _ _ _ _ (fun e => lies_ne h.own2 hlr.1 (by rw [hm, e]))
  · obtain ⟨j, x, hx, ⟨e, rfl⟩ | ⟨e, rfl⟩⟩ := mem_modify hq
    · subst e
      rw [hr] at hx
      injection hx with hx
      subst hx
      exact ⟨hlr.1.set k y, hlr.2.1.keep (Below.heap_setCell _ _ _ _ (show r.h ≠ r.g by have := hlr.2.2.2; omega)), hlr.2.2⟩
    · obtain ⟨h1, h2, h3, h4⟩ := h.lie q (List.mem_of_getElem? hx)
      have hne : q.g ≠ r.g ∧ q.h ≠ r.g := by
        rcases Nat.lt_or_gt_of_ne e with hlt | hlt
        · have := pg_order h hr hx hlt
          omega
        · have := pg_order h hx hr hlt
          have := hlr.2.2.2
          omega
      exact ⟨h1.keep (Below.heap_setCell _ _ _ _ hne.1), h2.keep (Below.heap_setCell _ _ _ _ hne.2), h3, h4⟩

/-- A byte of what stands beside a sector laid anew. -/
theorem pg_set2 (h : Pg w lo a b rs) (hr : rs[i]? = some r) (k : Nat) (y : UInt8) : Pg (w.setCell ⟨r.h, k, none⟩ (.int .u8 (y.toNat : Int))) lo a b (rs.modify i (fun q => { q with c := q.c.set k y })) := by
  have hlr := h.lie r (List.mem_of_getElem? hr)
  refine ⟨?_, ?_, fun q hq => ?_, rise_modify h.rise _ (fun _ => rfl) (fun _ => rfl), h.apart⟩
  · rw [rw_x2]
    exact h.own1.keep fun m hm => Below.heap_setCell _ _ _ _ (fun e => lies_ne h.own1 hlr.2.1 (by rw [hm, e]))
  · rw [rw_y2]
    exact h.own2.keep fun m hm => Below.heap_setCell _ _ _ _ (fun e => lies_ne h.own2 hlr.2.1 (by rw [hm, e]))
  · obtain ⟨j, x, hx, ⟨e, rfl⟩ | ⟨e, rfl⟩⟩ := mem_modify hq
    · subst e
      rw [hr] at hx
      injection hx with hx
      subst hx
      exact ⟨hlr.1.keep (Below.heap_setCell _ _ _ _ (show r.g ≠ r.h by have := hlr.2.2.2; omega)), hlr.2.1.set k y, hlr.2.2⟩
    · obtain ⟨h1, h2, h3, h4⟩ := h.lie q (List.mem_of_getElem? hx)
      have hne : q.g ≠ r.h ∧ q.h ≠ r.h := by
        rcases Nat.lt_or_gt_of_ne e with hlt | hlt
        · have := pg_order h hr hx hlt
          have := hlr.2.2.2
          omega
        · have := pg_order h hx hr hlt
          omega
      exact ⟨h1.keep (Below.heap_setCell _ _ _ _ hne.1), h2.keep (Below.heap_setCell _ _ _ _ hne.2), h3, h4⟩
end

/-! ### What it then tells -/

theorem unp_bad {o d : List UInt8} (h : Oob.unp o d = (0, 0, 0, 3) ∨ Oob.unp o d = (0, 0, 0, 4)) (i : Nat) : tell i d o = [] := by
  rcases h with h | h <;> exact tell_no h (.inl (by omega))

theorem tell_turned_d {p : Pc} (h : p.Ok) (i : Nat) {k : Nat} (hk : k < p.d.length) {y : UInt8} (hy : y ≠ p.d[k]) : tell i (p.d.set k y) p.code = [] := by
  obtain ⟨h1, h2⟩ := h
  have hl : 17 + k < (Oob.full p.k p.l p.s p.d ++ p.d).length := by rw [List.length_append, Oob.full_len]; omega
  have ht := Oob.turned (k := p.k) (l := p.l) (s := p.s) h2 hl (y := y) (by
    rw [List.getElem_append_right (by rw [Oob.full_len]; omega)]
    simp only [Oob.full_len, Nat.add_sub_cancel_left]
    exact hy)
  have e : (Oob.full p.k p.l p.s p.d ++ p.d).set (17 + k) y = Oob.full p.k p.l p.s p.d ++ p.d.set k y := by
    rw [List.set_append_right _ _ (by rw [Oob.full_len]; omega), Oob.full_len, Nat.add_sub_cancel_left]
  rw [e, show (Oob.full p.k p.l p.s p.d ++ p.d.set k y).take 17 = Oob.full p.k p.l p.s p.d by rw [← Oob.full_len p.k p.l p.s p.d]; exact List.take_left, show (Oob.full p.k p.l p.s p.d ++ p.d.set k y).drop 17 = p.d.set k y by rw [← Oob.full_len p.k p.l p.s p.d]; exact List.drop_left] at ht
  exact unp_bad ht i

theorem tell_turned_c {p : Pc} (h : p.Ok) (i : Nat) {k : Nat} (hk : k < p.code.length) {y : UInt8} (hy : y ≠ p.code[k]) : tell i p.d (p.code.set k y) = [] := by
  obtain ⟨h1, h2⟩ := h
  have hk2 : k < (Oob.full p.k p.l p.s p.d).length := hk
  have hl : k < (Oob.full p.k p.l p.s p.d ++ p.d).length := by rw [List.length_append]; omega
  have ht := Oob.turned (k := p.k) (l := p.l) (s := p.s) h2 hl (y := y) (by
    rw [List.getElem_append_left hk2]
    exact hy)
  have e : (Oob.full p.k p.l p.s p.d ++ p.d).set k y = (Oob.full p.k p.l p.s p.d).set k y ++ p.d := List.set_append_left _ _ hk2
  have hl17 : ((Oob.full p.k p.l p.s p.d).set k y).length = 17 := by rw [List.length_set, Oob.full_len]
  rw [e, show ((Oob.full p.k p.l p.s p.d).set k y ++ p.d).take 17 = (Oob.full p.k p.l p.s p.d).set k y by rw [← hl17]; exact List.take_left, show ((Oob.full p.k p.l p.s p.d).set k y ++ p.d).drop 17 = p.d by rw [← hl17]; exact List.drop_left] at ht
  exact unp_bad ht i

/-- The slots but one. -/
def but (ss : List Sl) (m t : Nat) : List Fnd := (List.range (m - 1)).map fun i => fnd ss (if i < t then i else i + 1)

theorem all_but {ss : List Sl} {N t : Nat} (hok : ∀ p ∈ ss.map Sl.pc, p.Ok) (hN : ss.length ≤ N) (ht : t < ss.length) {D O : List (List UInt8)} (hD : D.length = N) (hO : O.length = N)
    (h1 : ∀ i, i ≠ t → D.getD i [] = ((fill N (ss.map Sl.pc)).map Pc.d).getD i []) (h2 : ∀ i, i ≠ t → O.getD i [] = ((fill N (ss.map Sl.pc)).map Pc.code).getD i []) (h3 : tell t (D.getD t []) (O.getD t []) = []) : all D O = but ss ss.length t := by
  unfold all
  rw [hD, hO, Nat.min_self]
  obtain ⟨q, rfl⟩ : ∃ q, N = t + 1 + (ss.length - 1 - t) + q := ⟨N - ss.length, by omega⟩
  rw [read_none _ _ _ q (fun i a1 a2 => by rw [h1 i (by omega), h2 i (by omega)]; exact tell_pad (by omega) a2)]
  rw [read_seg _ _ (fnd ss) (t + 1) (ss.length - 1 - t) (fun i a1 a2 => by rw [h1 i (by omega), h2 i (by omega)]; exact tell_slot hok (by omega))]
  rw [read_none _ _ t 1 (fun i a1 a2 => by obtain rfl : i = t := by omega
                                           exact h3)]
  have h0 := read_seg D O (fnd ss) 0 t (fun i a1 a2 => by rw [h1 i (by omega), h2 i (by omega)]; exact tell_slot hok (by omega))
  rw [Nat.zero_add] at h0
  rw [h0]
  simp only [Page.read, List.nil_append]
  unfold but
  apply List.ext_getElem
  · simp
    omega
  · intro i a1 a2
    simp only [List.length_append, List.length_map, List.length_range] at a1 a2
    rw [List.getElem_map, List.getElem_range]
    rcases Nat.lt_or_ge i t with hi | hi
    · rw [List.getElem_append_left (by simpa using hi), List.getElem_map, List.getElem_range, if_pos hi, Nat.zero_add]
    · rw [List.getElem_append_right (by simpa using hi), List.getElem_map, List.getElem_range, if_neg (by omega)]
      simp only [List.length_map, List.length_range]
      congr 1
      omega

theorem but_row {rs : List Rd} {ss : List Sl} {m t : Nat} (h : rs.map Rd.key = (but ss m t).map Fnd.key) {j q : Nat} {x : Sl} (hq : q = if j < t then j else j + 1) (hx : ss[q]? = some x) (hj : j < m - 1) : ∃ r, rs[j]? = some r ∧ r.z = [(q : Int), x.k, x.l, x.s] ∧ r.d = sect x := by
  have h1 : (rs.map Rd.key)[j]? = some ([(q : Int), x.k, x.l, x.s], sect x) := by
    rw [h]
    unfold but
    rw [List.getElem?_map, List.getElem?_map, List.getElem?_range hj]
    simp only [Option.map_some, ← hq]
    rw [fnd_at hx]
    rfl
  rw [List.getElem?_map, Option.map_eq_some_iff] at h1
  obtain ⟨r, hr, e⟩ := h1
  injection e with e1 e2
  exact ⟨r, hr, e1, e2⟩

theorem getD_set_ne {l : List (List UInt8)} {i t : Nat} (f : List UInt8 → List UInt8) (h : i ≠ t) : (l.modify t f).getD i [] = l.getD i [] := by
  rw [List.getD_eq_getElem?_getD, List.getD_eq_getElem?_getD, List.getElem?_modify]
  cases l[i]? with
  | none => rfl
  | some x => simp [Ne.symm h]

theorem getD_set_eq {l : List (List UInt8)} {t : Nat} {x : List UInt8} (f : List UInt8 → List UInt8) (h : l[t]? = some x) : (l.modify t f).getD t [] = f x := by
  rw [List.getD_eq_getElem?_getD, List.getElem?_modify, h]
  simp

theorem rw_d (rs : List Rw) (t k : Nat) (y : UInt8) : (rs.modify t (fun q => { q with d := q.d.set k y })).map Rw.d = (rs.map Rw.d).modify t (fun d => d.set k y) := by
  apply List.ext_getElem?
  intro j
  rw [List.getElem?_map, List.getElem?_modify, List.getElem?_modify, List.getElem?_map]
  cases rs[j]? with
  | none => rfl
  | some x => by_cases e : t = j <;> simp [e]

theorem rw_c (rs : List Rw) (t k : Nat) (y : UInt8) : (rs.modify t (fun q => { q with c := q.c.set k y })).map Rw.c = (rs.map Rw.c).modify t (fun d => d.set k y) := by
  apply List.ext_getElem?
  intro j
  rw [List.getElem?_map, List.getElem?_modify, List.getElem?_modify, List.getElem?_map]
  cases rs[j]? with
  | none => rfl
  | some x => by_cases e : t = j <;> simp [e]

section
variable {qs : List Rw} {ss : List Sl} {N : Nat}

theorem two_d (h : qs.map Rw.two = (fill N (ss.map Sl.pc)).map Pc.two) : qs.map Rw.d = (fill N (ss.map Sl.pc)).map Pc.d := by
  have := congrArg (List.map Prod.fst) h
  simpa [Rw.two, Pc.two, Function.comp_def] using this
theorem two_c (h : qs.map Rw.two = (fill N (ss.map Sl.pc)).map Pc.two) : qs.map Rw.c = (fill N (ss.map Sl.pc)).map Pc.code := by
  have := congrArg (List.map Prod.snd) h
  simpa [Rw.two, Pc.two, Function.comp_def] using this

theorem two_len (h : qs.map Rw.two = (fill N (ss.map Sl.pc)).map Pc.two) (hok : ∀ p ∈ ss.map Sl.pc, p.Ok) {t : Nat} {r : Rw} (hr : qs[t]? = some r) : r.d.length = 16 ∧ r.c.length = 17 := by
  have h1 : (qs.map Rw.two)[t]? = some r.two := by rw [List.getElem?_map, hr]; rfl
  rw [h, List.getElem?_map, Option.map_eq_some_iff] at h1
  obtain ⟨p, hp, e⟩ := h1
  injection e with e1 e2
  rw [← e1, ← e2]
  exact ⟨(fill_ok.2 hok p (List.mem_of_getElem? hp)).2, p.code_len⟩

/-- One byte of a sector turned: the page reads on, and tells all other slots. -/
theorem turned_d (htwo : qs.map Rw.two = (fill N (ss.map Sl.pc)).map Pc.two) (hok : ∀ p ∈ ss.map Sl.pc, p.Ok) (hN : ss.length ≤ N) {t k : Nat} (ht : t < ss.length) {r : Rw} (hr : qs[t]? = some r) {z : UInt8} (hz : r.d[k]? = some z) {y : UInt8} (hy : y ≠ z) :
    all ((qs.modify t (fun q => { q with d := q.d.set k y })).map Rw.d) ((qs.modify t (fun q => { q with d := q.d.set k y })).map Rw.c) = but ss ss.length t := by
  have hl : (fill N (ss.map Sl.pc)).length = N := fill_len (by simpa using hN)
  obtain ⟨x, hx⟩ : ∃ x, ss[t]? = some x := ⟨_, List.getElem?_eq_getElem ht⟩
  have hf := fill_slot (N := N) hx
  have hp : x.pc.Ok := hok _ (List.mem_map.2 ⟨x, List.mem_of_getElem? hx, rfl⟩)
  have hd : r.d = x.pc.d := by
    have h1 : (qs.map Rw.d)[t]? = some r.d := by rw [List.getElem?_map, hr]; rfl
    rw [two_d htwo, List.getElem?_map, hf] at h1
    injection h1 with h1
    exact h1.symm
  have hql : qs.length = N := by have := congrArg List.length htwo; simp [hl] at this; exact this
  obtain ⟨hk, rfl⟩ := List.getElem?_eq_some_iff.1 hz
  rw [rw_d, rw_c1, two_d htwo, two_c htwo]
  refine all_but hok hN ht (by simp [hl]) (by simp [hl]) (fun i hi => getD_set_ne _ hi) (fun i _ => rfl) ?_
  rw [getD_set_eq (x := x.pc.d) _ (by rw [List.getElem?_map, hf]; rfl), getD_map _ _ hf]
  exact tell_turned_d hp t (by rw [← hd]; exact hk) (by simp only [← hd]; exact hy)

theorem turned_c (htwo : qs.map Rw.two = (fill N (ss.map Sl.pc)).map Pc.two) (hok : ∀ p ∈ ss.map Sl.pc, p.Ok) (hN : ss.length ≤ N) {t k : Nat} (ht : t < ss.length) {r : Rw} (hr : qs[t]? = some r) {z : UInt8} (hz : r.c[k]? = some z) {y : UInt8} (hy : y ≠ z) :
    all ((qs.modify t (fun q => { q with c := q.c.set k y })).map Rw.d) ((qs.modify t (fun q => { q with c := q.c.set k y })).map Rw.c) = but ss ss.length t := by
  have hl : (fill N (ss.map Sl.pc)).length = N := fill_len (by simpa using hN)
  obtain ⟨x, hx⟩ : ∃ x, ss[t]? = some x := ⟨_, List.getElem?_eq_getElem ht⟩
  have hf := fill_slot (N := N) hx
  have hp : x.pc.Ok := hok _ (List.mem_map.2 ⟨x, List.mem_of_getElem? hx, rfl⟩)
  have hd : r.c = x.pc.code := by
    have h1 : (qs.map Rw.c)[t]? = some r.c := by rw [List.getElem?_map, hr]; rfl
    rw [two_c htwo, List.getElem?_map, hf] at h1
    injection h1 with h1
    exact h1.symm
  have hql : qs.length = N := by have := congrArg List.length htwo; simp [hl] at this; exact this
  obtain ⟨hk, rfl⟩ := List.getElem?_eq_some_iff.1 hz
  rw [rw_c, rw_d2, two_d htwo, two_c htwo]
  refine all_but hok hN ht (by simp [hl]) (by simp [hl]) (fun i _ => rfl) (fun i hi => getD_set_ne _ hi) ?_
  rw [getD_set_eq (x := x.pc.code) _ (by rw [List.getElem?_map, hf]; rfl), getD_map _ _ hf]
  exact tell_turned_c hp t (by rw [← hd]; exact hk) (by simp only [← hd]; exact hy)
end

end Go.Proofs.Yteonjdigcecceaa.PageLaw
