/-
  What each function of package geom does, the fifth part: the look-up of a place.
-/
import Derived.Test.YtnnonkmkdjhacaaGeomPlace
import Derived.Test.YtnnonkmkdjhacaaGeomCounts
namespace Go.Proofs.Ytnnonkmkdjhacaa
open Go.RowKit
set_option maxRecDepth 4000

section
variable {c l k p s U R L N : Int}

end
end Go.Proofs.Ytnnonkmkdjhacaa
