/-
  TEXTS OF THE PROOF, one behind the other: SubDo3, SubDo4.
-/
import Derived.Test.YtphfinlfabklmaaGreatA07

section

/-
  THE CONTRACT OF subs.Act at kind 3, of items that may be.
-/
namespace Go.Proofs.YtphfinlfabklmaaGreat
open Go.RowKit

end Go.Proofs.YtphfinlfabklmaaGreat

end

section

/-
  THE CONTRACT OF subs.Act at kind 4, of items that may be.
-/
namespace Go.Proofs.YtphfinlfabklmaaGreat
open Go.RowKit

end Go.Proofs.YtphfinlfabklmaaGreat

end
