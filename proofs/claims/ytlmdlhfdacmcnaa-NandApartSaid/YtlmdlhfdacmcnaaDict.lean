/-
  A map from ints to values in a block of its own, as a function: made, looked up, stored into, deleted from. Nothing of the program's code is named here but the type int.
-/
import Derived.Test.YtlmdlhfdacmcnaaPlanNew
import Derived.Maps.OwnSet
namespace Go.Proofs.Ytlmdlhfdacmcnaa
open Go.RowKit Go.Maps
set_option maxRecDepth 4000

/-- How an element reads: as itself. -/
def held (v : Value) : Option (DataW Value × List MemPlace) := some (.held v, [])

/-- Block b is a map that holds m, and all its keys lie within 0 .. N. -/
def Dict (w : World) (b N : Nat) (m : Int → Option Value) : Prop :=
  ∃ n D, w.ownsMap Try.prog 3 held b n D ∧ (∀ x : Int, (Lit.int .i64 x).wf = true → (m x = none → Maps.has D (.int .i64 x) = false) ∧ ∀ v, m x = some v → Maps.has D (.int .i64 x) = true ∧ ∀ z, D.atKey (.int .i64 x) z = .held v) ∧
    ∀ x, m x ≠ none → 0 ≤ x ∧ x < N

theorem nodup_sub {α : Type} [DecidableEq α] : ∀ (l r : List α), l.Pairwise (· ≠ ·) → (∀ x ∈ l, x ∈ r) → l.length ≤ r.length
  | [], _, _, _ => Nat.zero_le _
  | x :: l, r, hp, hs => by
    have hx := hs x (List.mem_cons_self ..)
    have h1 := nodup_sub l (r.erase x) (List.pairwise_cons.1 hp).2 (fun y hy => (List.mem_erase_of_ne ((List.pairwise_cons.1 hp).1 y hy).symm).2 (hs y (List.mem_cons_of_mem _ hy)))
    have h2 := List.length_erase_of_mem hx
    have h3 := List.length_pos_of_mem hx
    simp only [List.length_cons]
    omega

theorem wf_of_bd {x : Int} {N : Nat} (hN : N ≤ 1000000) (h0 : 0 ≤ x) (h1 : x < N) : (Lit.int .i64 x).wf = true := WalkArith.wf_i64 (by omega)

theorem key_int {v : Value} {l : Lit} (h : keyOf Try.prog 3 v = some l) : ∃ x, l = .int .i64 x ∧ (Lit.int .i64 x).wf = true := by
  simp only [keyOf, Try.underlying3] at h
  cases v <;> simp [mapKey, Try.underlying3] at h
  obtain ⟨⟨rfl, h1⟩, rfl⟩ := h
  exact ⟨_, rfl, h1⟩

theorem mem_has {es : List (Lit × DataW Value)} {p : Lit × DataW Value} (hp : p ∈ es) (hk : WideAt.IsKeyLit p.1) : Maps.has (.map es) p.1 = true := by
  rw [Maps.has_eq, List.any_eq_true]
  refine ⟨p, hp, ?_⟩
  cases h : p.1.sameKey p.1 with
  | true => rfl
  | false => exact absurd h (by cases h2 : p.1 <;> simp_all [Lit.sameKey, WideAt.IsKeyLit])

section
variable {w w' : World} {b N : Nat} {m : Int → Option Value}

theorem Dict.lt (h : Dict w b N m) : b < w.heap.size := by
  obtain ⟨n, D, h, _⟩ := h
  exact h.lt

theorem Dict.keep (h : Dict w b N m) (hk : w'.heap[b]? = w.heap[b]?) : Dict w' b N m := by
  obtain ⟨n, D, ⟨es, clock, hb, h1⟩, h2⟩ := h
  exact ⟨n, D, ⟨es, clock, hk.trans hb, h1⟩, h2⟩

theorem Dict.made (w : World) (N : Nat) : Dict (w.alloc (.map #[] 0)) w.heap.size N (fun _ => none) :=
  ⟨0, _, World.ownsMap_made w _ _ _, fun x _ => ⟨fun _ => rfl, fun v h => by cases h⟩, fun x h => absurd rfl h⟩

/-- How many it has. -/
theorem Dict.few (h : Dict w b N m) : ∃ n D, n ≤ N ∧ w.ownsMap Try.prog 3 held b n D ∧ (∀ x : Int, (Lit.int .i64 x).wf = true → (m x = none → Maps.has D (.int .i64 x) = false) ∧ ∀ v, m x = some v → Maps.has D (.int .i64 x) = true ∧ ∀ z, D.atKey (.int .i64 x) z = .held v) ∧
    ∀ x, m x ≠ none → 0 ≤ x ∧ x < N := by
  obtain ⟨n, D, h1, h2, h3⟩ := h
  have ht := h1.tidy (int_keyed Try.underlying3)
  obtain ⟨es, clock, hb, F, hs, hD⟩ := h1
  refine ⟨es.size, D, ?_, ⟨es, clock, hb, F, Nat.le_refl _, hD⟩, h2, h3⟩
  have hk : Keys (KeysOf Try.prog 3) ((es.toList.map (WideElems.rg Try.prog 3 held)).foldr DataW.insert []) := keys_perm (WideShapes.sorted_perm _).symm (fit_keys F)
  have hl : ((es.toList.map (WideElems.rg Try.prog 3 held)).foldr DataW.insert []).length = es.size := length_read es
  rw [hD] at ht h2
  generalize (es.toList.map (WideElems.rg Try.prog 3 held)).foldr DataW.insert [] = L at hk hl ht h2
  obtain ⟨L2, e, hp⟩ := ht
  injection e with e
  subst e
  haveI : DecidableEq Lit := fun a b => Classical.propDecidable (a = b)
  have := nodup_sub (L.map (·.1)) ((List.range N).map fun i : Nat => Lit.int .i64 (i : Int)) (List.pairwise_map.2 hp) (fun x hx => by
    obtain ⟨p, hp1, rfl⟩ := List.mem_map.1 hx
    obtain ⟨v, hv⟩ := hk p hp1
    obtain ⟨y, hy, hw⟩ := key_int hv
    have hh := mem_has hp1 ((int_keyed Try.underlying3).key hv)
    rw [hy] at hh
    have hn : m y ≠ none := fun e => by rw [(h2 y hw).1 e] at hh; cases hh
    have hb := h3 y hn
    exact List.mem_map.2 ⟨y.toNat, List.mem_range.2 (by omega), by rw [hy]; congr 1; omega⟩)
  simp only [List.length_map, List.length_range] at this
  omega

theorem Dict.none_run {t e : TypeId} (h : Dict w b N m) (ht : Try.prog.underlying t = some (.map 3 e)) {z : Value} (hz : (zeroValue e).run Try.prog w = .ok z w) {x : Int} (hw : (Lit.int .i64 x).wf = true) (hx : m x = none) :
    (Instr.lookup t (.map (some b)) (.int .i64 x) true).run Try.prog w = .ok (.tuple #[z, .bool false]) w := by
  obtain ⟨n, D, h1, h2, _⟩ := h
  obtain ⟨v, ps, hr, hv⟩ := h1.look_ok (int_keyed Try.underlying3) ht hz (zd := .held z) (zp := []) rfl (keyOf_int_mk Try.underlying3 hw)
  have hn := (h2 x hw).1 hx
  rw [hr, hn]
  rw [Maps.atKey_of_not_has hn] at hv
  have e : v = z := by
    have hv2 : some (DataW.held v, ([] : List MemPlace)) = some (DataW.held z, ps) := hv
    injection hv2 with hv2
    injection hv2 with hv2
    injection hv2
  rw [e]

theorem Dict.some_run {t e : TypeId} (h : Dict w b N m) (ht : Try.prog.underlying t = some (.map 3 e)) {z : Value} (hz : (zeroValue e).run Try.prog w = .ok z w) {x : Int} (hw : (Lit.int .i64 x).wf = true) {y : Value} (hx : m x = some y) :
    (Instr.lookup t (.map (some b)) (.int .i64 x) true).run Try.prog w = .ok (.tuple #[y, .bool true]) w := by
  obtain ⟨n, D, h1, h2, _⟩ := h
  obtain ⟨v, ps, hr, hv⟩ := h1.look_ok (int_keyed Try.underlying3) ht hz (zd := .held z) (zp := []) rfl (keyOf_int_mk Try.underlying3 hw)
  have hn := (h2 x hw).2 y hx
  rw [hr, hn.1]
  rw [hn.2] at hv
  have e : v = y := by
    have hv2 : some (DataW.held v, ([] : List MemPlace)) = some (DataW.held y, ps) := hv
    injection hv2 with hv2
    injection hv2 with hv2
    injection hv2
  rw [e]

theorem Dict.store {t e : TypeId} (h : Dict w b N m) (ht : Try.prog.underlying t = some (.map 3 e)) (hN : N ≤ 1000000) {x : Int} (h0 : 0 ≤ x) (h1 : x < N) (v : Value) :
    ∃ w', (Instr.mapUpdate t (.map (some b)) (.int .i64 x) v).run Try.prog w = .ok () w' ∧ Dict w' b N (fun y => if y = x then some v else m y) ∧ w.grownBy w' (some b) := by
  obtain ⟨n, D, hn, h2, h3, h4⟩ := h.few
  have hw := wf_of_bd hN h0 h1
  have K : Keyed Try.prog 3 := int_keyed Try.underlying3
  have hk := keyOf_int_mk (P := Try.prog) Try.underlying3 hw
  obtain ⟨w', hr, ho, hg⟩ := h2.store K ht (Nat.lt_of_le_of_lt (Nat.le_trans hn hN) (by decide)) (d := .held v) (ps := []) hk rfl
  refine ⟨w', hr, ⟨_, _, ho, fun y hy => ?_, fun y hy => ?_⟩, hg.grown⟩
  · by_cases e : y = x
    · subst e
      refine ⟨fun h => by simp at h, fun v2 h => ?_⟩
      simp only [if_true] at h
      injection h with h
      subst h
      exact ⟨Maps.has_put_same h2.isMap (K.key hk) _, fun z => Maps.atKey_put_same h2.isMap (K.key hk) _ z⟩
    · have hne : Lit.int .i64 y ≠ Lit.int .i64 x := fun h => e (by injection h)
      simp only [if_neg e, Maps.has_put_other hne]
      exact ⟨(h3 y hy).1, fun v2 h => ⟨((h3 y hy).2 v2 h).1, fun z => (Maps.atKey_put_other hne _ z).trans (((h3 y hy).2 v2 h).2 z)⟩⟩
  · by_cases e : y = x
    · subst e
      exact ⟨h0, h1⟩
    · simp only [if_neg e] at hy
      exact h4 y hy

theorem Dict.delete {t e : TypeId} (h : Dict w b N m) (ht : Try.prog.underlying t = some (.map 3 e)) {x : Int} (hw : (Lit.int .i64 x).wf = true) (ty : TypeId) :
    ∃ w', (Builtin.delete_ #[t, 3] ty #[.map (some b), .int .i64 x]).run Try.prog w = .ok (.tuple #[]) w' ∧ Dict w' b N (fun y => if y = x then none else m y) ∧ w.grownBy w' (some b) := by
  obtain ⟨n, D, h2, h3, h4⟩ := h
  have K : Keyed Try.prog 3 := int_keyed Try.underlying3
  have hk := keyOf_int_mk (P := Try.prog) Try.underlying3 hw
  obtain ⟨w', hr, ho, hg⟩ := h2.drop K ht hk ty
  refine ⟨w', hr, ⟨_, _, ho, fun y hy => ?_, fun y hy => ?_⟩, hg.grown⟩
  · by_cases e : y = x
    · subst e
      exact ⟨fun _ => Maps.has_del_same, fun v2 h => by simp at h⟩
    · have hne : Lit.int .i64 y ≠ Lit.int .i64 x := fun h => e (by injection h)
      simp only [if_neg e, Maps.has_del_other hne]
      exact ⟨(h3 y hy).1, fun v2 h => ⟨((h3 y hy).2 v2 h).1, fun z => (Maps.atKey_del_other hne z).trans (((h3 y hy).2 v2 h).2 z)⟩⟩
  · by_cases e : y = x
    · simp [e] at hy
    · simp only [if_neg e] at hy
      exact h4 y hy
end

end Go.Proofs.Ytlmdlhfdacmcnaa
