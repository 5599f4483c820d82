/-
  What each function of package geom does, the fifth part: the look-up of a place.
-/
import Derived.Test.YtpheblblkkclbaaGeomPlace
import Derived.Test.YtpheblblkkclbaaGeomCounts
namespace Go.Proofs.Ytpheblblkkclbaa
open Go.RowKit
set_option maxRecDepth 4000

section
variable {c l k p s U R L N : Int}

end
end Go.Proofs.Ytpheblblkkclbaa
