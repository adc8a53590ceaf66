/-
  THE CONTRACTS OF varint.Put, Size, Text AND OF THE DOCUMENT'S ANSWERS TO THEM: each returns what the plain mathematics says, and writes nothing that was there.
-/
import Derived.Test.YtkmbnpjnjlcjmaaRows
import Derived.Test.YtkmbnpjnjlcjmaaVarPure
import Derived.Test.YtkmbnpjnjlcjmaaKit
import Derived.Deep.DeepMust
import Derived.Lib.Hide
namespace Go.Proofs.Ytkmbnpjnjlcjmaa
open Go.RowKit

theorem Try.info5 : (Try.prog.info? 5).map (fun i => (i.zero, i.size, i.bytes)) = some (some (.int .u8 0), 1, 1) := by kernel_rfl

end Go.Proofs.Ytkmbnpjnjlcjmaa
