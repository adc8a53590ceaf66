/-
  THE CONTRACT OF THE DOCUMENT'S ANSWER TO varint.Get.
-/
import Derived.Test.YtkmbnpjnjlcjmaaVarGet
namespace Go.Proofs.Ytkmbnpjnjlcjmaa
open Go.RowKit

end Go.Proofs.Ytkmbnpjnjlcjmaa
