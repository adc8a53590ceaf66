/-
 TEXTS OF THE PROOF, one behind the other: LnkREmit.
-/
import Derived.Test.YtmpigdokghngiaaGreatQ05
import Derived.Test.YtmpigdokghngiaaGreatQ26
import Derived.Test.YtmpigdokghngiaaGreatQ20
import Derived.Test.YtmpigdokghngiaaGreatQ24
import Derived.Test.YtmpigdokghngiaaGreatQ02
import Derived.Deep.Cut

namespace Go.Proofs.YtmpigdokghngiaaGreat
open Go.RowKit

set_option linter.unusedSimpArgs false
set_option linter.unusedVariables false
end Go.Proofs.YtmpigdokghngiaaGreat
