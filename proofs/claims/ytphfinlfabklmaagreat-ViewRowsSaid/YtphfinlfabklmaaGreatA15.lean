/-
  TEXTS OF THE PROOF, one behind the other: RosDoC2.
-/
import Derived.Test.YtphfinlfabklmaaGreatA14
import Derived.Test.YtphfinlfabklmaaGreatA01

/-
  LAYER 8, THE CODE: Do, where it does.
-/
namespace Go.Proofs.YtphfinlfabklmaaGreat
open Go.RowKit

theorem dropO_le (l : List Ent) (x : Ent) : (dropO entIs l x).length ≤ l.length := List.length_filter_le _ _

theorem putO_le (l : List Ent) (x : Ent) : (putO entLt entIs l x).length ≤ l.length + 1 := by
  rw [putO_len]
  split <;> omega

end Go.Proofs.YtphfinlfabklmaaGreat
