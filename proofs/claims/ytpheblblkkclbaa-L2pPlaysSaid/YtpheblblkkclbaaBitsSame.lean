/-
  The document's answer of layer 4, the first part: two lists that are the same.
-/
import Derived.Test.YtpheblblkkclbaaBitsList1
import Derived.Test.YtpheblblkkclbaaBitsKit
namespace Go.Proofs.Ytpheblblkkclbaa.BitsPkg
open Go.RowKit
set_option maxRecDepth 4000

end Go.Proofs.Ytpheblblkkclbaa.BitsPkg
