/-
 TEXTS OF THE PROOF, one behind the other: FraRread.
-/
import Derived.Test.YtmpigdokghngiaaGreatQ05
import Derived.Test.YtmpigdokghngiaaGreatQ16
import Derived.Test.YtmpigdokghngiaaGreatQ14
import Derived.Test.YtmpigdokghngiaaGreatQ02

namespace Go.Proofs.YtmpigdokghngiaaGreat
open Go.RowKit

set_option linter.unusedSimpArgs false
end Go.Proofs.YtmpigdokghngiaaGreat
