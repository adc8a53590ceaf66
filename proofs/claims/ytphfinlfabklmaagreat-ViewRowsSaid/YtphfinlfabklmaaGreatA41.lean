/-
  TEXTS OF THE PROOF, one behind the other: ViewW2.
-/
import Derived.Test.YtphfinlfabklmaaGreatA40

/-
  LAYER 15: blocks of eight cells.
-/
namespace Go.Proofs.YtphfinlfabklmaaGreat
open Go.RowKit

theorem mem_next {l : List (List UInt8)} {k : Nat} (hk : k < l.length) (u : List UInt8) : decide (u ∈ l.take (k + 1)) = (decide (u ∈ l.take k) || (l.getD k [] == u)) := by
  have hm : u ∈ l.take k ++ [l[k]] ↔ u ∈ l.take k ∨ u = l[k] := by rw [List.mem_append, List.mem_singleton]
  rw [List.take_succ_eq_append_getElem hk, List.getD_eq_getElem?_getD, List.getElem?_eq_getElem hk, Option.getD_some, Bool.eq_iff_iff, decide_eq_true_eq, hm, Bool.or_eq_true, decide_eq_true_eq, beq_iff_eq]
  exact ⟨fun h => h.imp id Eq.symm, fun h => h.imp id Eq.symm⟩

/-- A block of 8 cells, stored into as one. -/
def stN8 (w : World) (B : Nat) (y0 y1 y2 y3 y4 y5 y6 y7 : Value) : World := (((((((w.setCell ⟨B, 0, none⟩ y0).setCell ⟨B, 1, none⟩ y1).setCell ⟨B, 2, none⟩ y2).setCell ⟨B, 3, none⟩ y3).setCell ⟨B, 4, none⟩ y4).setCell ⟨B, 5, none⟩ y5).setCell ⟨B, 6, none⟩ y6).setCell ⟨B, 7, none⟩ y7

end Go.Proofs.YtphfinlfabklmaaGreat
