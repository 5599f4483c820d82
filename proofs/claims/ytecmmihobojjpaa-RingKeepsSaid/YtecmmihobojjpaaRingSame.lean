/-
  What the document's 'Same' of two slots does.
-/
import Derived.Test.YtecmmihobojjpaaRingAbs
namespace Go.Proofs.Ytecmmihobojjpaa.RingLaw
open Go.RowKit Ring RingPkg
set_option maxRecDepth 4000

set_option maxHeartbeats 1000000 in
/-- Two slots that are the same. -/
theorem Same_eq (s : Slot) (A A' : Option Addr) (n c c' : Nat) (w : World) (h1 : Bytes w w.heap.size A n s.d) (h2 : Bytes w w.heap.size A' n s.d) :
    Calls Try.prog 29 #[slotV s (.slice A n c), slotV s (.slice A' n c')] w fun e w' => e = .returned (.bool true) ∧ Below w.heap.size w w' := by
  obtain ⟨k, l, st, d, f⟩ := s
  have hb1 := (Below.refl w.heap.size w).alloc (Nat.le_refl _) (.cells #[.int .i64 k, .int .i64 l, .int .i64 st, .slice A n c, .int .i64 f] 35)
  have hb := hb1.alloc hb1.size (.cells #[.int .i64 k, .int .i64 l, .int .i64 st, .slice A' n c', .int .i64 f] 35)
  have hs1 := run_str (P := Try.prog) _ 33 9 5 Try.underlying33 Try.underlying5 Try.underlying9 (c := c) (bytes_keep h1 hb)
  have hs2 := run_str (P := Try.prog) _ 33 9 5 Try.underlying33 Try.underlying5 Try.underlying9 (c := c') (bytes_keep h2 hb)
  have hq := str_eq (rfl : d = d)
  have HB := Lib.hid hb
  clear hb1 hb h1 h2
  go_enter Try.func29, Try.ntmps29
  go_wp2
  go_ret
  exact ⟨by first | rfl | simp, HB.out⟩

set_option maxHeartbeats 1000000 in
/-- Two slots of unlike sectors. -/
theorem Same_lba (k l l' st st' f f' : Int) (A A' : Option Addr) (n n' c c' : Nat) (w : World) (hl : l ≠ l') :
    Calls Try.prog 29 #[.agg #[.int .i64 k, .int .i64 l, .int .i64 st, .slice A n c, .int .i64 f], .agg #[.int .i64 k, .int .i64 l', .int .i64 st', .slice A' n' c', .int .i64 f']] w fun e w' => e = .returned (.bool false) ∧ Below w.heap.size w w' := by
  have hb1 := (Below.refl w.heap.size w).alloc (Nat.le_refl _) (.cells #[.int .i64 k, .int .i64 l, .int .i64 st, .slice A n c, .int .i64 f] 35)
  have HB := Lib.hid (hb1.alloc hb1.size (.cells #[.int .i64 k, .int .i64 l', .int .i64 st', .slice A' n' c', .int .i64 f'] 35))
  have hq : (l == l') = false := by simpa using hl
  clear hb1 hl
  go_enter Try.func29, Try.ntmps29
  go_wp2
  go_ret
  exact ⟨by first | rfl | simp, HB.out⟩
end Go.Proofs.Ytecmmihobojjpaa.RingLaw
