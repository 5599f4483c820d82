/-
  What each function of package mark does, the second part: decode.
-/
import Derived.Test.YteonjdigcecceaaMarkWalks
import Derived.Test.YteonjdigcecceaaHeld
namespace Go.Proofs.Yteonjdigcecceaa.MarkPkg
open Go.RowKit Go.Proofs.Yteonjdigcecceaa.OobPkg
set_option maxRecDepth 4000
attribute [-go_sem] loadCellsFrom storeCells

end Go.Proofs.Yteonjdigcecceaa.MarkPkg
