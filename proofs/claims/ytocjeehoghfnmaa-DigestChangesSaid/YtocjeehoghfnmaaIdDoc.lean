/-
  THE CONTRACTS OF THE DOCUMENT'S Few AND Same.
-/
import Derived.Test.YtocjeehoghfnmaaIdCmp
import Derived.Test.YtocjeehoghfnmaaIdRow
namespace Go.Proofs.Ytocjeehoghfnmaa
open Go.RowKit

def fewB (ls : List (List UInt8)) : Bool := decide (ls.length ≤ 30) && ls.all fun t => decide (t.length ≤ 30)

theorem fewB_yes {ls : List (List UInt8)} (h : fewB ls = true) : ls.length ≤ 30 ∧ ∀ t ∈ ls, t.length ≤ 30 := by
  unfold fewB at h
  simp only [Bool.and_eq_true, decide_eq_true_eq] at h
  exact ⟨h.1, fun t ht => by simpa using List.all_eq_true.1 h.2 t ht⟩

theorem getD_some {ls : List (List UInt8)} {k : Nat} (h : k < ls.length) : ls[k]? = some (ls.getD k []) := by simp [List.getD, List.getElem?_eq_getElem h]

end Go.Proofs.Ytocjeehoghfnmaa
