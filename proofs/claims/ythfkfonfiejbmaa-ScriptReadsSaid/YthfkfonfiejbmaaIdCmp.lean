/-
  THE CONTRACTS OF ident.compare, Less AND OF THE DOCUMENT'S ANSWER TO Less.
-/
import Derived.Test.YthfkfonfiejbmaaVarTake
import Derived.Test.YthfkfonfiejbmaaIdPure
import Derived.Test.YthfkfonfiejbmaaShelf
namespace Go.Proofs.Ythfkfonfiejbmaa
open Go.RowKit Go.Lib

/-- The first that is not nought. -/
def orI (x y : Int) : Int := if x = 0 then y else x

theorem idCmp_or (a b : List UInt8) : idCmp a b = orI (compareInt a.length b.length) (compareBytes a b) := by
  unfold idCmp compareInt orI
  by_cases h1 : a.length < b.length
  · have : (a.length : Int) < b.length := by omega
    simp [h1, this]
  · by_cases h2 : b.length < a.length
    · have h1' : ¬ (a.length : Int) < b.length := by omega
      have h2' : (b.length : Int) < a.length := by omega
      simp [h1, h2, h1', h2']
    · have h1' : ¬ (a.length : Int) < b.length := by omega
      have h2' : ¬ (b.length : Int) < a.length := by omega
      simp [h1, h2, h1', h2']

end Go.Proofs.Ythfkfonfiejbmaa
