/-
 TEXTS OF THE PROOF, one behind the other: DigRchange.
-/
import Derived.Test.YtphfinlfabklmaaGreatB30
import Derived.Deep.RegionLaw

namespace Go.Proofs.YtphfinlfabklmaaGreat
open Go.RowKit

end Go.Proofs.YtphfinlfabklmaaGreat
