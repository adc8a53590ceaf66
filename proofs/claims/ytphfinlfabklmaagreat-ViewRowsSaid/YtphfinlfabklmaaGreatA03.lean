/-
  TEXTS OF THE PROOF, one behind the other: SubOne.
-/
import Derived.Test.YtphfinlfabklmaaGreatA02

/-
  THE CONTRACTS OF WHAT IS DONE TO A PAIR OF ITEMS, kind by kind.
-/
namespace Go.Proofs.YtphfinlfabklmaaGreat
open Go.RowKit

/-- A pair as a value. -/
def prV (a b : It) : Value := .agg #[.bool a.to, .bool a.fr, .bool a.out, .bool a.inn, .bool a.bl, .bool b.to, .bool b.fr, .bool b.out, .bool b.inn, .bool b.bl]

/-- What is told of a pair and an error. -/
def prE (r : It × It × Nat) : Value := .tuple #[prV r.1 r.2.1, .int .i64 r.2.2]

end Go.Proofs.YtphfinlfabklmaaGreat
