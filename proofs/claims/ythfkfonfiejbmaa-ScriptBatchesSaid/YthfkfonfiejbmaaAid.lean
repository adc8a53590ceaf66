/-
  SMALL WORDS ON WORLDS, for contracts over slices of structs.
-/
import Derived.Test.YthfkfonfiejbmaaSeq
namespace Go.Proofs.Ythfkfonfiejbmaa
open Go.RowKit

theorem below2Z {w a b : World} (h1 : Below w.heap.size w a) (h2 : Below a.heap.size a b) : Below w.heap.size w b := h1.trans (h2.mono h1.size)

theorem bl_allocZ {w a : World} (h : Below w.heap.size w a) (o : Obj) : Below w.heap.size w (a.alloc o) := h.alloc h.size o

theorem bl_newZ (w : World) (o : Obj) : Below w.heap.size w (w.alloc o) := (Below.refl _ _).alloc (Nat.le_refl _) o

theorem cellLaterZ {w w' : World} {a : Addr} {v : Value} (h : w.cell? a = some v) (hb : Below w.heap.size w w') : w'.cell? a = some v :=
  (hb.cell (World.block_lt_of_cell? w _ h)).trans h

theorem regrownZ {w w' : World} (h : ∃ p : Regrown, w' = Sort.grow (redrawn w p.d) p.os) : Below w.heap.size w w' := by
  obtain ⟨p, rfl⟩ := h
  exact below_regrown _ _ _

/-- A new block's cells. -/
theorem cellsAt_made {w : World} {cs : Array Value} {vs : List Value} (h : cs.toList = vs) (T : TypeId) {B : Nat} (hB : B = w.heap.size) : CellsAt (w.alloc (.cells cs T)) B 0 vs := by
  subst hB
  intro j u hu
  rw [Nat.zero_add, World.cell?_alloc_at _ _ _ _ rfl, ← hu, ← h]
  simp

/-- Free cells of a new block. -/
theorem freeAt_made {w : World} {cs : Array Value} (T : TypeId) : ∀ i, (w.alloc (.cells cs T)).frozen? ⟨w.heap.size, i, none⟩ = false := fun i => by simp

end Go.Proofs.Ythfkfonfiejbmaa
