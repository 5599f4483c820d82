/-
  What each function of package geom does, the sixth part: Of, Chan and Number, for every input.
-/
import Derived.Test.YtnnonkmkdjhacaaGeomLook
namespace Go.Proofs.Ytnnonkmkdjhacaa
open Go.RowKit
set_option maxRecDepth 4000

section
variable {c l k p s U R L N : Int}

end
end Go.Proofs.Ytnnonkmkdjhacaa
