/-
  A FEW CELLS THAT A DRAWN REGION READS, KEPT THROUGH ITS CALLS: over any program.
-/
import Derived.Test.YthfkfonfiejbmaaHeld
namespace Go.Proofs.Ythfkfonfiejbmaa
open Go.RowKit

/-- Cells that a drawn region reads. -/
def heldC (X : World) (cs : List (Nat × Nat × Value)) : Prop := ∀ p ∈ cs, X.cell? ⟨p.1, p.2.1, none⟩ = some p.2.2

theorem heldC_nil (X : World) : heldC X [] := fun p h => by cases h
theorem heldC_cons {X : World} {b o : Nat} {v : Value} {cs : List (Nat × Nat × Value)} (h : X.cell? ⟨b, o, none⟩ = some v) (ht : heldC X cs) : heldC X ((b, o, v) :: cs) := fun p hp => by
  rcases List.mem_cons.1 hp with rfl | hp
  · exact h
  · exact ht p hp
theorem heldC_up {W X : World} {cs : List (Nat × Nat × Value)} (hb : Below W.heap.size W X) (h : heldC W cs) : heldC X cs := fun p hp => cellLaterZ (h p hp) hb
theorem heldC_get {X : World} {cs : List (Nat × Nat × Value)} (h : heldC X cs) {b o : Nat} {v : Value} (hm : (b, o, v) ∈ cs) : X.cell? ⟨b, o, none⟩ = some v := h _ hm

end Go.Proofs.Ythfkfonfiejbmaa
