/-
  For every input the program's answer and the document's are the same.
-/
import Derived.Test.YtaimecbfplcmhaaGeomRef2
import Derived.Test.YtaimecbfplcmhaaGeomRefOf
namespace Go.Proofs.Ytaimecbfplcmhaa
open Go.RowKit

theorem of_same (c l k p s a : Int) : ∃ x0 x1 x2 x3 er : Int, (∀ w, Calls Try.prog 19 #[.agg #[.int .i64 c, .int .i64 l, .int .i64 k, .int .i64 p, .int .i64 s], .int .i64 a] w fun e w' => e = .returned (.tuple #[.agg #[.int .i64 x0, .int .i64 x1, .int .i64 x2, .int .i64 x3], .int .i64 er]) ∧ Below w.heap.size w w') ∧ (∀ w, Calls Try.prog 20 #[.agg #[.int .i64 c, .int .i64 l, .int .i64 k, .int .i64 p, .int .i64 s], .int .i64 a] w fun e w' => e = .returned (.tuple #[.agg #[.int .i64 x0, .int .i64 x1, .int .i64 x2, .int .i64 x3], .int .i64 er]) ∧ Below w.heap.size w w') := by
  rcases Decidable.em (Geom.ok c l k p s) with h | h
  · have hs := Geom.sizes h
    rcases Decidable.em (0 ≤ a ∧ a < k * (p * (c * l * s))) with ⟨h0, h1⟩ | ha
    · refine ⟨_, _, _, _, _, of_in hs a h0 h1, rof_any hs a _ _ _ _ _ (fun u b g t ht ha => ?_) (fun ho => by omega)⟩
      obtain ⟨_, _, e0, e1, e2, e3⟩ := Geom.of_number hs ht ha
      exact ⟨e0, e1, e2, e3, rfl⟩
    · have ha' : a < 0 ∨ k * (p * (c * l * s)) ≤ a := by omega
      refine ⟨_, _, _, _, _, of_out hs a ha', rof_any hs a _ _ _ _ _ (fun u b g t ht hn => ?_) (fun _ => ⟨rfl, rfl, rfl, rfl, rfl⟩)⟩
      have := Geom.of_number hs ht hn
      omega
  · exact ⟨_, _, _, _, _, of_bad h a, rof_bad h a⟩

theorem num_same (c l k p s u b g t : Int) : ∃ x er : Int, (∀ w, Calls Try.prog 21 #[.agg #[.int .i64 c, .int .i64 l, .int .i64 k, .int .i64 p, .int .i64 s], .agg #[.int .i64 u, .int .i64 b, .int .i64 g, .int .i64 t]] w fun e w' => e = .returned (.tuple #[.int .i64 x, .int .i64 er]) ∧ Below w.heap.size w w') ∧ (∀ w, Calls Try.prog 22 #[.agg #[.int .i64 c, .int .i64 l, .int .i64 k, .int .i64 p, .int .i64 s], .agg #[.int .i64 u, .int .i64 b, .int .i64 g, .int .i64 t]] w fun e w' => e = .returned (.tuple #[.int .i64 x, .int .i64 er]) ∧ Below w.heap.size w w') := by
  rcases Decidable.em (Geom.ok c l k p s) with h | h
  · have hs := Geom.sizes h
    rcases Decidable.em (Geom.there (c * l) k p s u b g t) with hp | hp
    · exact ⟨_, _, num_in hs u b g t _ hp rfl, rnum_in hs u b g t _ hp rfl⟩
    · refine ⟨_, _, num_out hs u b g t hp, ?_⟩
      rcases Decidable.em (0 ≤ u ∧ u < c * l) with ⟨y0, z0⟩ | h0
      · rcases Decidable.em (0 ≤ b ∧ b < k) with ⟨y1, z1⟩ | h1
        · rcases Decidable.em (0 ≤ g ∧ g < p) with ⟨y2, z2⟩ | h2
          · have h3 : t < 0 ∨ s ≤ t := by
              rcases Decidable.em (t < 0 ∨ s ≤ t) with h | h
              · exact h
              · exact absurd ⟨y0, z0, y1, z1, y2, z2, by omega, by omega⟩ hp
            exact rnum_out3 hs u b g t y0 z0 y1 z1 y2 z2 h3
          · exact rnum_out2 hs u b g t y0 z0 y1 z1 (by omega)
        · exact rnum_out1 hs u b g t y0 z0 (by omega)
      · exact rnum_out0 hs u b g t (by omega)
  · exact ⟨_, _, num_bad h u b g t, rnum_bad h u b g t⟩

theorem chan_same (c l k p s a : Int) : ∃ x er : Int, (∀ w, Calls Try.prog 23 #[.agg #[.int .i64 c, .int .i64 l, .int .i64 k, .int .i64 p, .int .i64 s], .int .i64 a] w fun e w' => e = .returned (.tuple #[.int .i64 x, .int .i64 er]) ∧ Below w.heap.size w w') ∧ (∀ w, Calls Try.prog 24 #[.agg #[.int .i64 c, .int .i64 l, .int .i64 k, .int .i64 p, .int .i64 s], .int .i64 a] w fun e w' => e = .returned (.tuple #[.int .i64 x, .int .i64 er]) ∧ Below w.heap.size w w') := by
  rcases Decidable.em (Geom.ok c l k p s) with h | h
  · have hs := Geom.sizes h
    rcases Decidable.em (0 ≤ a ∧ a < c * l) with ⟨h0, h1⟩ | ha
    · exact ⟨_, _, chan_in hs a h0 h1, rchan_in hs a h0 h1⟩
    · have ha' : a < 0 ∨ c * l ≤ a := by omega
      exact ⟨_, _, chan_out hs a ha', rchan_out hs a ha'⟩
  · exact ⟨_, _, chan_bad h a, rchan_bad h a⟩

theorem units_same (c l k p s : Int) : ∃ x : Int, (∀ w, Calls Try.prog 13 #[.agg #[.int .i64 c, .int .i64 l, .int .i64 k, .int .i64 p, .int .i64 s]] w fun e w' => e = .returned (.int .i64 x) ∧ Below w.heap.size w w') ∧ (∀ w, Calls Try.prog 14 #[.agg #[.int .i64 c, .int .i64 l, .int .i64 k, .int .i64 p, .int .i64 s]] w fun e w' => e = .returned (.int .i64 x) ∧ Below w.heap.size w w') := by
  rcases Decidable.em (Geom.ok c l k p s) with h | h
  · exact ⟨_, Units_ok (Geom.sizes h), runits_ok (Geom.sizes h)⟩
  · exact ⟨_, Units_bad h, runits_bad h⟩

theorem line_same (c l k p s : Int) : ∃ x : Int, (∀ w, Calls Try.prog 15 #[.agg #[.int .i64 c, .int .i64 l, .int .i64 k, .int .i64 p, .int .i64 s]] w fun e w' => e = .returned (.int .i64 x) ∧ Below w.heap.size w w') ∧ (∀ w, Calls Try.prog 16 #[.agg #[.int .i64 c, .int .i64 l, .int .i64 k, .int .i64 p, .int .i64 s]] w fun e w' => e = .returned (.int .i64 x) ∧ Below w.heap.size w w') := by
  rcases Decidable.em (Geom.ok c l k p s) with h | h
  · exact ⟨_, Line_ok (Geom.sizes h), rline_ok (Geom.sizes h)⟩
  · exact ⟨_, Line_bad h, rline_bad h⟩

theorem all_same (c l k p s : Int) : ∃ x : Int, (∀ w, Calls Try.prog 17 #[.agg #[.int .i64 c, .int .i64 l, .int .i64 k, .int .i64 p, .int .i64 s]] w fun e w' => e = .returned (.int .i64 x) ∧ Below w.heap.size w w') ∧ (∀ w, Calls Try.prog 18 #[.agg #[.int .i64 c, .int .i64 l, .int .i64 k, .int .i64 p, .int .i64 s]] w fun e w' => e = .returned (.int .i64 x) ∧ Below w.heap.size w w') := by
  rcases Decidable.em (Geom.ok c l k p s) with h | h
  · exact ⟨_, All_ok (Geom.sizes h), rall_ok (Geom.sizes h)⟩
  · exact ⟨_, All_bad h, rall_bad h⟩

end Go.Proofs.Ytaimecbfplcmhaa
