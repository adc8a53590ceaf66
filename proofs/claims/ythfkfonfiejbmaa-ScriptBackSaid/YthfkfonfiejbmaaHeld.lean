/-
  A FEW BLOCKS THAT A DRAWN REGION READS, KEPT THROUGH ITS CALLS: over any program.
-/
import Derived.Test.YthfkfonfiejbmaaAid
import Derived.Deep.RegionHeld
import Derived.BigRegion
import Derived.Lib.Hide
namespace Go.Proofs.Ythfkfonfiejbmaa
open Go.RowKit

/-- Each block's cells, from the first one on. -/
def heldB (X : World) (bs : List (Nat × List Value)) : Prop := ∀ p ∈ bs, CellsAt X p.1 0 p.2

theorem heldB_nil (X : World) : heldB X [] := fun p h => by cases h
theorem heldB_cons {X : World} {b : Nat} {vs : List Value} {bs : List (Nat × List Value)} (h : CellsAt X b 0 vs) (ht : heldB X bs) : heldB X ((b, vs) :: bs) := fun p hp => by
  rcases List.mem_cons.1 hp with rfl | hp
  · exact h
  · exact ht p hp
theorem heldB_up {W X : World} {bs : List (Nat × List Value)} (hb : Below W.heap.size W X) (h : heldB W bs) : heldB X bs := fun p hp => (h p hp).later hb
theorem heldB_get {X : World} {bs : List (Nat × List Value)} (h : heldB X bs) {b : Nat} {vs : List Value} {i : Nat} {v : Value} (hm : (b, vs) ∈ bs) (hi : vs[i]? = some v) : X.cell? ⟨b, i, none⟩ = some v := by
  have := h _ hm i v hi
  rwa [Nat.zero_add] at this

/-- A few blocks, and one cell of a row. -/
def heldD (X : World) (bs : List (Nat × List Value)) (b off : Nat) (v : Value) : Prop := heldB X bs ∧ X.cell? ⟨b, off, none⟩ = some v

theorem heldD_up {W X : World} {bs : List (Nat × List Value)} {b off : Nat} {v : Value} (hb : Below W.heap.size W X) (h : heldD W bs b off v) : heldD X bs b off v :=
  ⟨heldB_up hb h.1, cellLaterZ h.2 hb⟩

/-- A block known whole. -/
theorem cellsAt_block {X : World} {b : Nat} {cs : Array Value} {T : TypeId} (h : X.heap[b]? = some (.cells cs T (0, 0))) : CellsAt X b 0 cs.toList := by
  intro j u hu
  have hj : cs[j]? = some u := by rw [← hu]; simp
  rw [Nat.zero_add]
  unfold World.cell?
  rw [h]
  simpa using hj

end Go.Proofs.Ythfkfonfiejbmaa
