/-
  THE CONTRACTS OF ident.Put AND ident.Take.
-/
import Derived.Test.YtkmbnpjnjlcjmaaIdFold
import Derived.Test.YtkmbnpjnjlcjmaaVarTake
namespace Go.Proofs.Ytkmbnpjnjlcjmaa
open Go.RowKit

theorem vtake_short {l : List UInt8} {p m : Int} {t : List UInt8} {f er : Nat} (h : vtake l p m = (t, f, er)) : t.length ≤ l.length := by
  unfold vtake at h
  generalize vget l p = g at h
  obtain ⟨n, g, e⟩ := g
  dsimp only at h
  repeat' split at h
  all_goals
    simp only [Prod.mk.injEq] at h
    obtain ⟨rfl, _, _⟩ := h
    simp
  try omega

end Go.Proofs.Ytkmbnpjnjlcjmaa
