/-
  What the laws that hold the program against the document's own answer need.
-/
import Derived.Test.YteonjdigcecceaaPageRefHead
import Derived.Test.YteonjdigcecceaaPageRefRead
import Derived.Test.YteonjdigcecceaaPageRefSame
namespace Go.Proofs.Yteonjdigcecceaa.PageRef
open Go.RowKit Go.ChangeShapes Go.WideShapes Page PagePkg PageLaw
set_option maxRecDepth 4000

theorem rbuilt_yes {N : Nat} {ps : List Pc} {w w' : World} {e : Ending} (h : RBuilt (N : Int) ps w w' e) (hf : fits (N : Int) ps.length) (hok : ∀ p ∈ ps, p.Ok) :
    ∃ A c A' c', e = .returned (.tuple #[.slice A N c, .slice A' N c', .int .i64 0]) ∧ Bys w' w'.heap.size A N ((fill N ps).map Pc.d) ∧ Bys w' w'.heap.size A' N ((fill N ps).map Pc.code) ∧ Below w.heap.size w w' := by
  rcases h with ⟨_, a, b, qs, h2, h3, h4, h5⟩ | ⟨h1, _⟩
  · rw [Int.toNat_natCast] at h4
    have hl : qs.length = N := by
      have := congrArg List.length h4
      rw [List.length_map, List.length_map, fill_len (by unfold fits at hf; omega)] at this
      exact this
    obtain ⟨A, c, A', c', e1, e2, _, _, _, _, e7, e8⟩ := h3.reads
    rw [hl] at e1 e2 e7 e8
    have hd : qs.map Rz.d = (fill N ps).map Pc.d := by
      have := congrArg (List.map Prod.fst) h4
      simpa [Rz.two, Pc.two, Function.comp_def] using this
    have hc : qs.map Rz.o = (fill N ps).map Pc.code := by
      have := congrArg (List.map Prod.snd) h4
      simpa [Rz.two, Pc.two, Function.comp_def] using this
    rw [hd] at e7
    rw [hc] at e8
    subst e1 e2
    exact ⟨A, c, A', c', h2, e7, e8, h5⟩
  · exact absurd ⟨hf, hok⟩ h1

theorem rbuilt_no {n : Int} {ps : List Pc} {w w' : World} {e : Ending} (h : RBuilt n ps w w' e) (hn : ¬ (fits n ps.length ∧ ∀ p ∈ ps, p.Ok)) : e = .returned (.tuple #[.slice none 0 0, .slice none 0 0, .int .i64 1]) ∧ Below w.heap.size w w' := by
  rcases h with ⟨h1, _⟩ | ⟨_, h2, h3⟩
  · exact absurd h1 hn
  · exact ⟨h2, h3⟩

theorem none_same (w : World) : Calls Try.prog 13 #[.slice none 0 0, .slice none 0 0] w fun e w' => e = .returned (.bool true) ∧ Below w.heap.size w w' :=
  sameBytes_any none none 0 0 0 [] w ⟨rfl, fun i xs h => by simp at h⟩ ⟨rfl, fun i xs h => by simp at h⟩ (by omega)

end Go.Proofs.Yteonjdigcecceaa.PageRef
