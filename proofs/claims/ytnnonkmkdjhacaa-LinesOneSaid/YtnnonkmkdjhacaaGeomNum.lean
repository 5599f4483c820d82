/-
  What each function of package geom does, the seventh part: Number, for every input.
-/
import Derived.Test.YtnnonkmkdjhacaaGeomOf
namespace Go.Proofs.Ytnnonkmkdjhacaa
open Go.RowKit
set_option maxRecDepth 4000

section
variable {c l k p s U R L N : Int}

end
end Go.Proofs.Ytnnonkmkdjhacaa
