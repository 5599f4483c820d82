/-
  What each function of package geom does, the sixth part: Of, Chan and Number, for every input.
-/
import Derived.Test.YtpheblblkkclbaaGeomLook
namespace Go.Proofs.Ytpheblblkkclbaa
open Go.RowKit
set_option maxRecDepth 4000

section
variable {c l k p s U R L N : Int}

end
end Go.Proofs.Ytpheblblkkclbaa
