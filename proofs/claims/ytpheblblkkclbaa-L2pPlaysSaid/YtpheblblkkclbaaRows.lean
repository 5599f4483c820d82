/-
  No cell of these rows narrows 'for every input' (looked for: loops, veiled, ifaces, maps, wideKeys, modest, calm, conditions, laid).
  DERIVED. THE GIVEN ROWS OF THIS SEAT. 6 by the template 'for every input the law returns true; each argument reads behind the call as it read before'; 0 by the template 'total and deterministic' (their statements: YtpheblblkkclbaaTotals.lean).
  GIVEN WITH THE SEED: the statements are not yours to turn. If you find one false, say at which input.
  Laid BY PROGRAM, IN A SANDBOX (cutbox-rows.mjs): the forced cells as the released guide's own fill.sh prints them over the translation f7463afe422dc381… (all of the seat's roots in one cut). By AI agents, Wed Nov 11 2026. No macro, syntax, notation, axiom, sorry.
-/
import Derived.Test.YtpheblblkkclbaaChecked
import GoSem.Claim
import GoSem.ClaimJoined
import GoSem.ClaimMapViews
import Derived.JoinedTies
import Derived.KernelRfl
namespace Go.Proofs.Ytpheblblkkclbaa
/- THE CELL 'sum', in the pinned program and in every row, IS THE sha256 OF THE DUMP (.gsa) THAT YtpheblblkkclbaaProg.lean LOADS. Nothing in Lean hashes anything: it is a label: what it is worth is what the hold of that sum in a sandbox is worth. -/
noncomputable def Try.pinned : Pinned := { name := "ytpheblblkkclbaa", sum := "f7463afe422dc38102dc286d0b6d03c3bacd8b4a6055345aa88de79573711b95", checked := Try.checked }
namespace Rows
def none {H : Type} : Left H := { results := [], args := [] }

/-- 'strakelaw11.L2pNews': WHATEVER THE INPUT: true; the input reads as it did. -/
def l2pNewsSpec : ChangeSpec := { name := "l2pNews", fn := fun _ => fun
  | [d1, d2, d3] => { results := [.lit (.bool true)], args := [d1, d2, d3] }
  | _ => none }
def l2pNewsRow : OpenClaim := { program := "ytpheblblkkclbaa", sum := "f7463afe422dc38102dc286d0b6d03c3bacd8b4a6055345aa88de79573711b95", func := "strake/strakelaw11.L2pNews", spec := "l2pNews", unfollowed := true, recurses := true, apart := false }
def L2pNewsSaid : Prop := l2pNewsRow.holds Try.pinned (OpenSpec.ofChange l2pNewsSpec)

/-- ITS FALSE NEIGHBOUR: 'it returns false'. Refute it at one input. -/
def l2pNewsWrong : ChangeSpec := { name := "l2pNews", fn := fun _ => fun
  | [d1, d2, d3] => { results := [.lit (.bool false)], args := [d1, d2, d3] }
  | _ => none }
def L2pNewsWrongFalsely : Prop := l2pNewsRow.holds Try.pinned (OpenSpec.ofChange l2pNewsWrong)

/-- 'strakelaw11.L2pPlays': WHATEVER THE INPUT: true; the input reads as it did. -/
def l2pPlaysSpec : ChangeSpec := { name := "l2pPlays", fn := fun _ => fun
  | [d1, d2, d3] => { results := [.lit (.bool true)], args := [d1, d2, d3] }
  | _ => none }
def l2pPlaysRow : OpenClaim := { program := "ytpheblblkkclbaa", sum := "f7463afe422dc38102dc286d0b6d03c3bacd8b4a6055345aa88de79573711b95", func := "strake/strakelaw11.L2pPlays", spec := "l2pPlays", unfollowed := true, recurses := true, apart := false }
def L2pPlaysSaid : Prop := l2pPlaysRow.holds Try.pinned (OpenSpec.ofChange l2pPlaysSpec)

/-- ITS FALSE NEIGHBOUR: 'it returns false'. Refute it at one input. -/
def l2pPlaysWrong : ChangeSpec := { name := "l2pPlays", fn := fun _ => fun
  | [d1, d2, d3] => { results := [.lit (.bool false)], args := [d1, d2, d3] }
  | _ => none }
def L2pPlaysWrongFalsely : Prop := l2pPlaysRow.holds Try.pinned (OpenSpec.ofChange l2pPlaysWrong)

/-- 'strakelaw11.L2pCounts': WHATEVER THE INPUT: true; the input reads as it did. -/
def l2pCountsSpec : ChangeSpec := { name := "l2pCounts", fn := fun _ => fun
  | [d1, d2, d3] => { results := [.lit (.bool true)], args := [d1, d2, d3] }
  | _ => none }
def l2pCountsRow : OpenClaim := { program := "ytpheblblkkclbaa", sum := "f7463afe422dc38102dc286d0b6d03c3bacd8b4a6055345aa88de79573711b95", func := "strake/strakelaw11.L2pCounts", spec := "l2pCounts", unfollowed := true, recurses := true, apart := false }
def L2pCountsSaid : Prop := l2pCountsRow.holds Try.pinned (OpenSpec.ofChange l2pCountsSpec)

/-- ITS FALSE NEIGHBOUR: 'it returns false'. Refute it at one input. -/
def l2pCountsWrong : ChangeSpec := { name := "l2pCounts", fn := fun _ => fun
  | [d1, d2, d3] => { results := [.lit (.bool false)], args := [d1, d2, d3] }
  | _ => none }
def L2pCountsWrongFalsely : Prop := l2pCountsRow.holds Try.pinned (OpenSpec.ofChange l2pCountsWrong)

/-- 'strakelaw11.L2pNewest': WHATEVER THE INPUT: true; the input reads as it did. -/
def l2pNewestSpec : ChangeSpec := { name := "l2pNewest", fn := fun _ => fun
  | [d1, d2] => { results := [.lit (.bool true)], args := [d1, d2] }
  | _ => none }
def l2pNewestRow : OpenClaim := { program := "ytpheblblkkclbaa", sum := "f7463afe422dc38102dc286d0b6d03c3bacd8b4a6055345aa88de79573711b95", func := "strake/strakelaw11.L2pNewest", spec := "l2pNewest", unfollowed := true, recurses := true, apart := false }
def L2pNewestSaid : Prop := l2pNewestRow.holds Try.pinned (OpenSpec.ofChange l2pNewestSpec)

/-- ITS FALSE NEIGHBOUR: 'it returns false'. Refute it at one input. -/
def l2pNewestWrong : ChangeSpec := { name := "l2pNewest", fn := fun _ => fun
  | [d1, d2] => { results := [.lit (.bool false)], args := [d1, d2] }
  | _ => none }
def L2pNewestWrongFalsely : Prop := l2pNewestRow.holds Try.pinned (OpenSpec.ofChange l2pNewestWrong)

/-- 'strakelaw11.L2pRefuses': WHATEVER THE INPUT: true; the input reads as it did. -/
def l2pRefusesSpec : ChangeSpec := { name := "l2pRefuses", fn := fun _ => fun
  | [d1, d2, d3] => { results := [.lit (.bool true)], args := [d1, d2, d3] }
  | _ => none }
def l2pRefusesRow : OpenClaim := { program := "ytpheblblkkclbaa", sum := "f7463afe422dc38102dc286d0b6d03c3bacd8b4a6055345aa88de79573711b95", func := "strake/strakelaw11.L2pRefuses", spec := "l2pRefuses", unfollowed := true, recurses := true, apart := false }
def L2pRefusesSaid : Prop := l2pRefusesRow.holds Try.pinned (OpenSpec.ofChange l2pRefusesSpec)

/-- ITS FALSE NEIGHBOUR: 'it returns false'. Refute it at one input. -/
def l2pRefusesWrong : ChangeSpec := { name := "l2pRefuses", fn := fun _ => fun
  | [d1, d2, d3] => { results := [.lit (.bool false)], args := [d1, d2, d3] }
  | _ => none }
def L2pRefusesWrongFalsely : Prop := l2pRefusesRow.holds Try.pinned (OpenSpec.ofChange l2pRefusesWrong)

/-- 'strakelaw11.L2pThere': WHATEVER THE INPUT: true; the input reads as it did. -/
def l2pThereSpec : ChangeSpec := { name := "l2pThere", fn := fun _ => fun
  | [d1, d2, d3] => { results := [.lit (.bool true)], args := [d1, d2, d3] }
  | _ => none }
def l2pThereRow : OpenClaim := { program := "ytpheblblkkclbaa", sum := "f7463afe422dc38102dc286d0b6d03c3bacd8b4a6055345aa88de79573711b95", func := "strake/strakelaw11.L2pThere", spec := "l2pThere", unfollowed := true, recurses := true, apart := false }
def L2pThereSaid : Prop := l2pThereRow.holds Try.pinned (OpenSpec.ofChange l2pThereSpec)

/-- ITS FALSE NEIGHBOUR: 'it returns false'. Refute it at one input. -/
def l2pThereWrong : ChangeSpec := { name := "l2pThere", fn := fun _ => fun
  | [d1, d2, d3] => { results := [.lit (.bool false)], args := [d1, d2, d3] }
  | _ => none }
def L2pThereWrongFalsely : Prop := l2pThereRow.holds Try.pinned (OpenSpec.ofChange l2pThereWrong)

/- THE SECOND FORM. 'bulk': how many values and letters a reading holds, each counted each time it is reached (what is shared counts as often as it is met; a slice's spare places count too). A statement '..UptoSaid' is the law's where the arguments, and the package variables that the reading takes, are together of bulk at most 1048576: NARROWER than '..Said'. Prove '..Said' where nothing that the law and all that it calls make is longer than what came in: it says more and counts as full. Else prove '..UptoSaid'. A law counts once. -/
mutual
def uptoBulk {H : Type} : DataW H → Nat
  | .lit (.string bytes) => bytes.length + 1
  | .lit _ => 1
  | .nil => 1
  | .ptr d => uptoBulk d + 1
  | .slice elems spare => uptoBulkAll elems + uptoBulkAll spare + 1
  | .agg parts => uptoBulkAll parts + 1
  | .iface _ d => uptoBulk d + 1
  | .map entries => uptoBulkEntries entries + 1
  | .held _ => 1
def uptoBulkAll {H : Type} : List (DataW H) → Nat
  | [] => 0
  | d :: r => uptoBulk d + uptoBulkAll r
def uptoBulkEntries {H : Type} : List (Lit × DataW H) → Nat
  | [] => 0
  | x :: r => uptoBulkEntry x + uptoBulkEntries r
def uptoBulkEntry {H : Type} : Lit × DataW H → Nat
  | (.string bytes, d) => bytes.length + uptoBulk d + 1
  | (_, d) => uptoBulk d + 1
 end
def uptoSmall : (H : Type) → List (DataW H) → Bool := fun _ ds => decide (uptoBulkAll ds ≤ 1048576)
def OpenSpec.upto (s : _root_.Go.ChangeSpec) : _root_.Go.OpenSpec := { _root_.Go.OpenSpec.ofChange s with cond := some uptoSmall }

/-- 'strakelaw11.L2pNews', WHERE WHAT IT READS IS OF BULK AT MOST 1048576: true; the input reads as it did. -/
def l2pNewsUptoRow : OpenClaim := { program := "ytpheblblkkclbaa", sum := "f7463afe422dc38102dc286d0b6d03c3bacd8b4a6055345aa88de79573711b95", func := "strake/strakelaw11.L2pNews", spec := "l2pNews", unfollowed := true, recurses := true, apart := false, narrowed := true }
def L2pNewsUptoSaid : Prop := l2pNewsUptoRow.holds Try.pinned (OpenSpec.upto l2pNewsSpec)

/-- 'strakelaw11.L2pPlays', WHERE WHAT IT READS IS OF BULK AT MOST 1048576: true; the input reads as it did. -/
def l2pPlaysUptoRow : OpenClaim := { program := "ytpheblblkkclbaa", sum := "f7463afe422dc38102dc286d0b6d03c3bacd8b4a6055345aa88de79573711b95", func := "strake/strakelaw11.L2pPlays", spec := "l2pPlays", unfollowed := true, recurses := true, apart := false, narrowed := true }
def L2pPlaysUptoSaid : Prop := l2pPlaysUptoRow.holds Try.pinned (OpenSpec.upto l2pPlaysSpec)

/-- 'strakelaw11.L2pCounts', WHERE WHAT IT READS IS OF BULK AT MOST 1048576: true; the input reads as it did. -/
def l2pCountsUptoRow : OpenClaim := { program := "ytpheblblkkclbaa", sum := "f7463afe422dc38102dc286d0b6d03c3bacd8b4a6055345aa88de79573711b95", func := "strake/strakelaw11.L2pCounts", spec := "l2pCounts", unfollowed := true, recurses := true, apart := false, narrowed := true }
def L2pCountsUptoSaid : Prop := l2pCountsUptoRow.holds Try.pinned (OpenSpec.upto l2pCountsSpec)

/-- 'strakelaw11.L2pNewest', WHERE WHAT IT READS IS OF BULK AT MOST 1048576: true; the input reads as it did. -/
def l2pNewestUptoRow : OpenClaim := { program := "ytpheblblkkclbaa", sum := "f7463afe422dc38102dc286d0b6d03c3bacd8b4a6055345aa88de79573711b95", func := "strake/strakelaw11.L2pNewest", spec := "l2pNewest", unfollowed := true, recurses := true, apart := false, narrowed := true }
def L2pNewestUptoSaid : Prop := l2pNewestUptoRow.holds Try.pinned (OpenSpec.upto l2pNewestSpec)

/-- 'strakelaw11.L2pRefuses', WHERE WHAT IT READS IS OF BULK AT MOST 1048576: true; the input reads as it did. -/
def l2pRefusesUptoRow : OpenClaim := { program := "ytpheblblkkclbaa", sum := "f7463afe422dc38102dc286d0b6d03c3bacd8b4a6055345aa88de79573711b95", func := "strake/strakelaw11.L2pRefuses", spec := "l2pRefuses", unfollowed := true, recurses := true, apart := false, narrowed := true }
def L2pRefusesUptoSaid : Prop := l2pRefusesUptoRow.holds Try.pinned (OpenSpec.upto l2pRefusesSpec)

/-- 'strakelaw11.L2pThere', WHERE WHAT IT READS IS OF BULK AT MOST 1048576: true; the input reads as it did. -/
def l2pThereUptoRow : OpenClaim := { program := "ytpheblblkkclbaa", sum := "f7463afe422dc38102dc286d0b6d03c3bacd8b4a6055345aa88de79573711b95", func := "strake/strakelaw11.L2pThere", spec := "l2pThere", unfollowed := true, recurses := true, apart := false, narrowed := true }
def L2pThereUptoSaid : Prop := l2pThereUptoRow.holds Try.pinned (OpenSpec.upto l2pThereSpec)

end Rows
end Go.Proofs.Ytpheblblkkclbaa
