/-
  What slices.SortFunc does to the ranks that package victim made.
-/
import Derived.Test.YtodaigdlfpinhaaVictimMin
import Derived.Test.YtodaigdlfpinhaaVictimLay
import Derived.Shelf.SlSortCmp.NoneTotal
namespace Go.Proofs.Ytodaigdlfpinhaa.VictimPkg
open Go.Shelf Victim
open Go.Sort (grow size_grow heap_grow_old HoldsK flatK size_flatK get_flatK putRowK putRow mapBlock SWO PermIn SortedIn)
set_option maxRecDepth 4000

/-- The ranks s stand in block g. -/
structure Rd (w : World) (g : Nat) (s : List K) : Prop where
  lt : g < w.heap.size
  at_ : ∀ i x, s[i]? = some x → w.cell? ⟨g, i * 3, none⟩ = some (ifv 53 x.1) ∧ w.cell? ⟨g, i * 3 + 1, none⟩ = some (ifv 54 x.2.1) ∧ w.cell? ⟨g, i * 3 + 2, none⟩ = some (ifv 48 x.2.2)

theorem Rd.keep {w w' : World} {g : Nat} {s : List K} (h : Rd w g s) (hs : w.heap.size ≤ w'.heap.size) (hk : w'.heap[g]? = w.heap[g]?) : Rd w' g s := by
  refine ⟨Nat.lt_of_lt_of_le h.lt hs, fun i x hx => ?_⟩
  obtain ⟨a, b, c⟩ := h.at_ i x hx
  have hb : ∀ j v, w.cell? ⟨g, j, none⟩ = some v → w'.cell? ⟨g, j, none⟩ = some v := fun j v hv => (World.cell?_of_block (w := w) hk).trans hv
  exact ⟨hb _ _ a, hb _ _ b, hb _ _ c⟩

theorem holds_of_own {w : World} {base : Nat} {g n c : Nat} {d : List K} (h : OwnR w base 38 3 (.slice (some ⟨g, 0, none⟩) n c) (rrows d)) : HoldsK rankC 3 w g 0 d.toArray := by
  intro j hj
  have hj2 : j < d.length * 3 := by simpa using hj
  have hi : j / 3 < d.length := by omega
  have hr : (rrows d)[j / 3]? = some (rankC d[j / 3]) := by simp [rrows, hi]
  have hm : j % 3 < (rankC d[j / 3]).length := by show j % 3 < 3; omega
  have hx : (rankC d[j / 3])[j % 3]? = some (rankC d[j / 3])[j % 3] := List.getElem?_eq_getElem hm
  have hc := h.cell hr hx
  rw [show j / 3 * 3 + j % 3 = j by omega] at hc
  rw [Nat.zero_add, get_flatK _ _ _ _ (by simpa using hj2)]
  have e1 : d.toArray[j / 3]! = d[j / 3] := by simp [hi]
  have e2 : (rankC d[j / 3])[j % 3]! = (rankC d[j / 3])[j % 3] := getElem!_pos (rankC d[j / 3]) (j % 3) hm
  rw [e1, e2]
  exact hc

theorem rd_of_holds {w : World} {g : Nat} {s : Array K} (hg : g < w.heap.size) (h : HoldsK rankC 3 w g 0 s) : Rd w g s.toList := by
  refine ⟨hg, fun i x hx => ?_⟩
  obtain ⟨hi, hxi⟩ := List.getElem?_eq_some_iff.1 hx
  have hi2 : i < s.size := by simpa using hi
  have e : s[i]! = x := by rw [getElem!_pos s i hi2]; simpa using hxi
  have c0 := (Go.Sort.HoldsK.cell h hi2 (c := 0) (by omega)).1
  have c1 := (Go.Sort.HoldsK.cell h hi2 (c := 1) (by omega)).1
  have c2 := (Go.Sort.HoldsK.cell h hi2 (c := 2) (by omega)).1
  rw [Nat.zero_add, e] at c0 c1 c2
  exact ⟨c0, c1, c2⟩

theorem swo_lt : SWO (ltOf cmpK) where
  irrefl := lt_irrefl
  trans := lt_trans
  ntrans := lt_ntrans

theorem cmp_lays (blk off size : Nat) (w : World) : CmpLays Try.prog 19 #[] rankC 3 cmpK blk off size w := fun _ _ _ _ x y => against_grown x y _

theorem grown_sorted {w : World} {g n : Nat} {os : Array Obj} (d : Array K) : w.grownBy (sortWorldK rankC 3 w g 0 n d os) (some g) := by
  refine ⟨rfl, rfl, rfl, by simp [sortWorldK, putRowK], fun k hk hne => ?_⟩
  unfold sortWorldK putRowK
  rw [heap_grow_old _ _ (by simpa using hk)]
  have : g ≠ k := fun e => hne (by rw [e])
  simp [putRow, mapBlock, Go.Sort.ahead, Array.getElem?_modify, this]

theorem srt_of {d : List K} {d' : Array K} (hp : PermIn 0 d.toArray.size d.toArray d') (hs : SortedIn (ltOf cmpK) 0 d.toArray.size d') : Srt d d'.toList := by
  obtain ⟨hsz, _, hperm⟩ := hp
  have hsz2 : d'.size = d.length := by simpa using hsz
  refine ⟨?_, List.pairwise_iff_getElem.2 fun i j hi hj hij => ?_⟩
  · have e1 : (d'.extract 0 d.toArray.size).toList = d'.toList := by rw [← hsz]; simp
    have e2 : (d.toArray.extract 0 d.toArray.size).toList = d := by simp
    rwa [e1, e2] at hperm
  · have hi' : i < d'.size := by simpa using hi
    have hj' : j < d'.size := by simpa using hj
    have := hs i j (Nat.zero_le _) hij (by rw [List.size_toArray]; omega)
    rw [getElem!_pos d' i hi', getElem!_pos d' j hj'] at this
    exact this

theorem SortFunc_any {w : World} {base : Nat} {v : Value} {d : List K} (h : OwnR w base 38 3 v (rrows d)) (hn : d.length ≤ 1000) :
    Calls Try.prog 21 #[v, .func (.func 19) #[] #[]] w fun e w' => e = .returned (.tuple #[]) ∧
      (∃ s, Srt d s ∧ ∀ g n c, v = .slice (some ⟨g, 0, none⟩) n c → 0 < d.length → Rd w' g s) ∧ w.grownBy w' v.ownBlock := by
  obtain ⟨A, c, rfl, hnc, hcm, hg⟩ := h.form
  rw [rrows_len] at *
  rcases Nat.eq_zero_or_pos d.length with hz | hz
  · have hd : d = [] := List.length_eq_zero_iff.1 hz
    subst hd
    refine (AnyF.slices_SortFunc_none sortRank A c (.func (.func 19) #[] #[]) w).mono ?_
    rintro e w' ⟨rfl, rfl⟩
    exact ⟨rfl, ⟨[], ⟨List.Perm.refl _, .nil⟩, fun _ _ _ _ h0 => absurd h0 (by simp)⟩, ⟨rfl, rfl, rfl, Nat.le_refl _, fun _ _ _ => rfl⟩⟩
  · obtain ⟨g, rfl⟩ := hg hz
    have hgl : g < w.heap.size := h.lt g rfl
    have hH := holds_of_own h
    have hcon := AnyQ.slices_SortFunc sortRank 3 Try.isAgg38 Try.sizeOf38 rankC (fun _ => rfl) rankC_one cmpK swo_lt 19 #[] g 0 c d.toArray w enters_against (cmp_lays g 0 _ w) hH hgl (by rw [List.size_toArray]; omega)
    rw [List.size_toArray] at hcon
    refine Calls.mono hcon ?_
    rintro e w' ⟨rfl, d', n, os, hp, hs, rfl⟩
    refine ⟨rfl, ⟨d'.toList, srt_of hp hs, fun g' n' c' hv _ => ?_⟩, grown_sorted d'⟩
    injection hv with hv
    injection hv with hv
    injection hv with hv
    subst hv
    exact rd_of_holds (by simp [sortWorldK, putRowK]; omega) (holdsK_sortWorldK_c rankC 3 w g 0 d.toArray d' n os hH hgl hp.1)

end Go.Proofs.Ytodaigdlfpinhaa.VictimPkg
