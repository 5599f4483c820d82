/-
  make of a slice of bytes; string(b) of a slice of bytes. Nothing of the program's code is named here.
-/
import Derived.Test.YtkpneckgpolaoaaBytes
import Derived.Laws.MakeOwn
import Derived.Laws.OwnMore
import Derived.Laws.BytesArg
import Derived.Deep.Quiet
import Derived.Lib.Strings
namespace Go.Proofs.Ytkpneckgpolaoaa
open Go.RowKit

/-- make([]byte, n): a new block of n noughts. -/
theorem run_make_bytes {P : Program} (w : World) (t e : TypeId) (ht : P.underlying t = some (.slice e)) (hi : byteInfo P e) (kl kc : IntKind) (n : Nat) (hn : n ≤ 281474976710656) :
    (Instr.makeSlice t (.int kl (n : Int)) (.int kc (n : Int))).run P w = .ok (.slice (some ⟨w.heap.size, 0, none⟩) n n) (w.alloc (.cells ((List.replicate n (0 : UInt8)).map cellOf).toArray e)) := by
  obtain ⟨i, hi, hz, hsz, hby⟩ := hi
  have h := run_make (P := P) w t e i (.int .u8 0) ht hi hz kl kc (n : Int) (n : Int) (by omega) (by omega) (by rw [hby]; omega) (by omega)
  rw [h, Int.toNat_natCast, hsz, Nat.mul_one]
  have e1 : madeCells (Value.int .u8 0).cells n = ((List.replicate n (0 : UInt8)).map cellOf).toArray := by
    apply Array.toList_inj.1
    show (madeCells #[.int .u8 0] n).toList = _
    rw [toList_madeCells_one, List.map_replicate]
    rfl
  rw [e1]

/-- Such a block is the call's own. -/
theorem own_made (w : World) (e : TypeId) (n : Nat) (hn : n ≤ maxLen) :
    Own (w.alloc (.cells ((List.replicate n (0 : UInt8)).map cellOf).toArray e)) w.heap.size e (.slice (some ⟨w.heap.size, 0, none⟩) n n) (List.replicate n 0) := by
  have h := own_new w e (List.replicate n 0) _ rfl (by simpa using hn)
  rwa [List.length_replicate] at h

/-- What an own slice is: its form, with its capacity, and that it reads as its list. -/
theorem Own.readsc {w : World} {base : Nat} {e : TypeId} {v : Value} {xs : List UInt8} (h : Own w base e v xs) :
    ∃ A c, v = .slice A xs.length c ∧ xs.length ≤ c ∧ c ≤ maxLen ∧ Bytes w w.heap.size A xs.length xs := by
  obtain ⟨A, c, hv, hr⟩ := h.reads
  refine ⟨A, c, hv, ?_, ?_, hr⟩
  · rcases h.2 with ⟨h1, h0⟩ | ⟨g, cap, cur, h1, _, _, hnc, hcm, _⟩
    · omega
    · rw [hv] at h1
      injection h1 with _ _ h2
      omega
  · rcases h.2 with ⟨h1, h0⟩ | ⟨g, cap, cur, h1, _, _, hnc, hcm, _⟩
    · rw [hv] at h1
      injection h1 with _ _ h2
      rw [h2]
      exact Nat.zero_le _
    · rw [hv] at h1
      injection h1 with _ _ h2
      rw [h2]
      exact hcm

/-- A string of these bytes. -/
def str (xs : List UInt8) : ByteArray := ⟨xs.toArray⟩

theorem str_inj {xs ys : List UInt8} (h : str xs = str ys) : xs = ys := by
  injection h with h
  simpa using congrArg Array.toList h

/-- string(b), b any slice of bytes, nil and empty let in. -/
theorem run_str {P : Program} (w : World) (src dst e : TypeId) (hs : P.underlying src = some (.slice e)) (he : P.underlying e = some (.int .u8)) (hd : P.underlying dst = some .string) {B : Nat} {A : Option Addr} {n c : Nat} {xs : List UInt8}
    (hr : Bytes w B A n xs) : (convert src dst (.slice A n c)).run P w = .ok (.string (str xs)) w := by
  rcases A with _ | ad
  · have hy : xs = [] := by
      rcases xs with _ | ⟨y, ys⟩
      · rfl
      · obtain ⟨b, off, h, _⟩ := hr.2 0 (by simp)
        cases h
    subst hy
    rw [run_convert_bytes_nil w src e hs he n c dst hd]
    rfl
  · rw [run_convert_bytes_string w src dst e _ n c hs he hd]
    have hl : (loadCells ad n).run P w = .ok ((xs.map fun x => (x.toNat : Int)).map (Value.int .u8)).toArray w := by
      have h := run_loadCells_list (P := P) w ad (xs.map cellOf) (fun j v hj => cells_of hr j v hj)
      rw [List.length_map, hr.1] at h
      rw [h, List.map_map]
      rfl
    rw [run_bytesToString w _ n c _ hl, foldl_push_bytes]
    simp only [List.map_map, ByteArray.empty, ByteArray.emptyWithCapacity]
    congr 2
    unfold str
    congr 1
    have e2 : (xs.map ((fun n : Int => UInt8.ofNat n.toNat) ∘ fun x : UInt8 => (x.toNat : Int))) = xs := by
      conv => rhs; rw [← List.map_id xs]
      apply List.map_congr_left
      intro x _
      simp
    rw [e2]
    simp
    rfl

/-- The same in every world of a region that draws its order. -/
theorem run_strs {P : Program} (w : World) (src dst e : TypeId) (hs : P.underlying src = some (.slice e)) (he : P.underlying e = some (.int .u8)) (hd : P.underlying dst = some .string) {B : Nat} {A : Option Addr} {n c : Nat} {xs : List UInt8}
    (hr : Bytes w B A n xs) : ∀ j, (convert src dst (.slice A n c)).run P (w.drewN j) = .ok (.string (str xs)) (w.drewN j) :=
  fun j => run_str (w.drewN j) src dst e hs he hd (show Bytes (w.drewN j) B A n xs from hr)

theorem below_draws {B : Nat} {a w : World} (h : Below B a w) (n : Nat) : Below B a (w.drewN n) := ⟨h.os, h.tape, h.output, h.size, h.block⟩

theorem str_toList (xs : List UInt8) : (str xs).toList = xs := by rw [Lib.toList_data]; rfl

theorem str_eq {xs ys : List UInt8} (h : xs = ys) : ((str xs).toList == (str ys).toList) = true := by rw [h]; simp
theorem str_ne {xs ys : List UInt8} (h : xs ≠ ys) : ((str xs).toList == (str ys).toList) = false := by
  rw [str_toList, str_toList]
  simpa using h

end Go.Proofs.Ytkpneckgpolaoaa
