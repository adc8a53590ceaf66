/-
  THE CONTRACTS OF varint.Take AND OF THE DOCUMENT'S ANSWER TO IT.
-/
import Derived.Test.YtkmbnpjnjlcjmaaVarRget
namespace Go.Proofs.Ytkmbnpjnjlcjmaa
open Go.RowKit

/-- Three results: text, place, error. -/
def tripleS (r : List UInt8 × Nat × Nat) : Value := .tuple #[.string ⟨r.1.toArray⟩, .int .i64 r.2.1, .int .i64 r.2.2]

end Go.Proofs.Ytkmbnpjnjlcjmaa
