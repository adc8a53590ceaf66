/-
  LAYER 7: moves in memory, and the four arrays that SubsMay keeps.
-/
import Derived.Test.YtkmbnpjnjlcjmaaSubStep
import Derived.Test.YtkmbnpjnjlcjmaaSubLive
import Derived.Test.YtkmbnpjnjlcjmaaAid
import Derived.Test.YtkmbnpjnjlcjmaaProg
namespace Go.Proofs.Ytkmbnpjnjlcjmaa
open Go.RowKit

def movVals (m : Mov) : List Value := [.bool m.o, .int .i64 m.k]

theorem movOK : RowOK Try.prog movVals 2 Mov.zero 53 47 (.agg #[.bool false, .int .i64 0]) 16 where
  len _ := rfl
  one a u hu := by
    simp only [movVals, List.mem_cons, List.not_mem_nil, or_false] at hu
    rcases hu with rfl | rfl <;> rfl
  pos := by decide
  small := by decide
  under := Try.underlying47
  info := by kernel_rfl
  zvals := rfl
  fits := by decide

def MovsAt (w : World) (v : Value) (l : List Mov) : Prop := RdS movVals 2 Mov.zero w v l ∧ ∀ m ∈ l, (Lit.int .i64 m.k).wf = true

theorem mgetD {l : List Mov} {i : Nat} (h : i < l.length) : l.getD i Mov.zero = l[i] := by
  rw [List.getD_eq_getElem?_getD, List.getElem?_eq_getElem h]; rfl

/-- The four arrays. -/
structure StB (w : World) (B : Nat) (s0 s1 q0 q1 b0 b1 : Bool) : Prop where
  it : w.heap[B]? = some (.cells #[.bool s0, .bool s1, .bool q0, .bool q1, .bool b0, .bool s1, .bool s0, .bool q1, .bool q0, .bool b1] 50 (0, 0))
  ask : w.heap[B + 1]? = some (.cells #[.bool q0, .bool q1] 51 (0, 0))
  se : w.heap[B + 2]? = some (.cells #[.bool s0, .bool s1] 51 (0, 0))
  bl : w.heap[B + 3]? = some (.cells #[.bool b0, .bool b1] 51 (0, 0))

theorem heapUp {w w' : World} {b : Nat} {o : Obj} (h : w.heap[b]? = some o) (hb : Below w.heap.size w w') : w'.heap[b]? = some o :=
  (hb.block b (Array.getElem?_eq_some_iff.1 h).1).trans h

theorem StB.later {w w' : World} {B : Nat} {s0 s1 q0 q1 b0 b1 : Bool} (h : StB w B s0 s1 q0 q1 b0 b1) (hb : Below w.heap.size w w') : StB w' B s0 s1 q0 q1 b0 b1 :=
  ⟨heapUp h.it hb, heapUp h.ask hb, heapUp h.se hb, heapUp h.bl hb⟩

/-- Two cells of a block. -/
theorem two_cells {w : World} {b : Nat} {x y : Value} {T : TypeId} (h : w.heap[b]? = some (.cells #[x, y] T (0, 0))) : w.cell? ⟨b, 0, none⟩ = some x ∧ w.cell? ⟨b, 1, none⟩ = some y ∧ w.frozen? ⟨b, 0, none⟩ = false ∧ w.frozen? ⟨b, 1, none⟩ = false :=
  ⟨cell_of_row w b 0 _ _ (0, 0) h, cell_of_row w b 1 _ _ (0, 0) h, frozen_of_row w b 0 _ _ h, frozen_of_row w b 1 _ _ h⟩

/-- Ten cells of a block. -/
theorem ten_cells {w : World} {b : Nat} {x0 x1 x2 x3 x4 x5 x6 x7 x8 x9 : Value} {T : TypeId} (h : w.heap[b]? = some (.cells #[x0, x1, x2, x3, x4, x5, x6, x7, x8, x9] T (0, 0))) :
    w.cell? ⟨b, 0, none⟩ = some x0 ∧ w.cell? ⟨b, 1, none⟩ = some x1 ∧ w.cell? ⟨b, 2, none⟩ = some x2 ∧ w.cell? ⟨b, 3, none⟩ = some x3 ∧ w.cell? ⟨b, 4, none⟩ = some x4 ∧ w.cell? ⟨b, 5, none⟩ = some x5 ∧ w.cell? ⟨b, 6, none⟩ = some x6 ∧ w.cell? ⟨b, 7, none⟩ = some x7 ∧ w.cell? ⟨b, 8, none⟩ = some x8 ∧ w.cell? ⟨b, 9, none⟩ = some x9 :=
  ⟨cell_of_row w b 0 _ _ (0, 0) h, cell_of_row w b 1 _ _ (0, 0) h, cell_of_row w b 2 _ _ (0, 0) h, cell_of_row w b 3 _ _ (0, 0) h, cell_of_row w b 4 _ _ (0, 0) h, cell_of_row w b 5 _ _ (0, 0) h, cell_of_row w b 6 _ _ (0, 0) h, cell_of_row w b 7 _ _ (0, 0) h, cell_of_row w b 8 _ _ (0, 0) h, cell_of_row w b 9 _ _ (0, 0) h⟩

theorem ten_free {w : World} {b : Nat} {cs : Array Value} {T : TypeId} (h : w.heap[b]? = some (.cells cs T (0, 0))) :
    w.frozen? ⟨b, 0, none⟩ = false ∧ w.frozen? ⟨b, 1, none⟩ = false ∧ w.frozen? ⟨b, 2, none⟩ = false ∧ w.frozen? ⟨b, 3, none⟩ = false ∧ w.frozen? ⟨b, 4, none⟩ = false ∧ w.frozen? ⟨b, 5, none⟩ = false ∧ w.frozen? ⟨b, 6, none⟩ = false ∧ w.frozen? ⟨b, 7, none⟩ = false ∧ w.frozen? ⟨b, 8, none⟩ = false ∧ w.frozen? ⟨b, 9, none⟩ = false :=
  ⟨frozen_of_row w b 0 _ _ h, frozen_of_row w b 1 _ _ h, frozen_of_row w b 2 _ _ h, frozen_of_row w b 3 _ _ h, frozen_of_row w b 4 _ _ h, frozen_of_row w b 5 _ _ h, frozen_of_row w b 6 _ _ h, frozen_of_row w b 7 _ _ h, frozen_of_row w b 8 _ _ h, frozen_of_row w b 9 _ _ h⟩

/-- Five cells of a block. -/
theorem five_cells {w : World} {b : Nat} {x0 x1 x2 x3 x4 : Value} {T : TypeId} (h : w.heap[b]? = some (.cells #[x0, x1, x2, x3, x4] T (0, 0))) :
    w.cell? ⟨b, 0, none⟩ = some x0 ∧ w.cell? ⟨b, 1, none⟩ = some x1 ∧ w.cell? ⟨b, 2, none⟩ = some x2 ∧ w.cell? ⟨b, 3, none⟩ = some x3 ∧ w.cell? ⟨b, 4, none⟩ = some x4 :=
  ⟨cell_of_row w b 0 _ _ (0, 0) h, cell_of_row w b 1 _ _ (0, 0) h, cell_of_row w b 2 _ _ (0, 0) h, cell_of_row w b 3 _ _ (0, 0) h, cell_of_row w b 4 _ _ (0, 0) h⟩

/-- A store leaves other blocks alone. -/
theorem heap_set_other {w : World} {b c : Nat} {o : Obj} (h : w.heap[b]? = some o) (hne : c ≠ b) (j : Nat) (v : Value) : (w.setCell ⟨c, j, none⟩ v).heap[b]? = some o :=
  (heap_setCell_other w ⟨c, j, none⟩ b v (fun e => hne e.symm)).trans h

end Go.Proofs.Ytkmbnpjnjlcjmaa
