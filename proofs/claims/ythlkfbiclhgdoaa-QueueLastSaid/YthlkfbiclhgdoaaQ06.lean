/-
  TEXTS OF THE PROOF, one behind the other: DigBox.
-/
import Derived.Test.YthlkfbiclhgdoaaQ04

/-
  CHANGES IN THE LAWS OF LAYER 5: the box of one, and what Set keeps.
-/
namespace Go.Proofs.Ythlkfbiclhgdoaa
open Go.RowKit

/-- A block of rows that is built with what it holds. -/
theorem tab_made (w : World) (B : Nat) (hB : B = w.heap.size) (T : TypeId) (t : List Row) (ht : t.length ≤ 100) (A : Array Value) (hA : A = (cellsOf t).toArray) (n : Nat) (hn : n = t.length) :
    Tab (w.alloc (.cells A T)) (.slice (some ⟨B, 0, none⟩) n n) t := by
  subst hB hA hn
  refine ⟨_, _, rfl, Nat.le_refl _, by unfold maxLen; omega, (fun e => by cases e), .inr ⟨_, _, rfl, by simp, fun i hi => cells5_of fun j u hu => ?_⟩⟩
  have hj : j < 5 := by have := (List.getElem?_eq_some_iff.1 hu).1; rwa [rowVals_len] at this
  rw [World.cell?_alloc_at _ _ _ _ rfl, Nat.zero_add, ← hu, ← cellsOf_at t i j hi hj]
  simp

/-- The box of a change, six cells. -/
def Box6 (w : World) (b : Nat) (c : Chg) : Prop :=
  w.cell? ⟨b, 0, none⟩ = some (.string ⟨c.c.toArray⟩) ∧ w.cell? ⟨b, 1, none⟩ = some (.bool c.on) ∧ w.cell? ⟨b, 2, none⟩ = some (.int .i64 c.v.sh) ∧ w.cell? ⟨b, 3, none⟩ = some (.int .i64 c.v.pr) ∧ w.cell? ⟨b, 4, none⟩ = some (.int .i64 c.v.si) ∧ w.cell? ⟨b, 5, none⟩ = some (.string ⟨c.v.st.toArray⟩)

theorem Box6.later {w w' : World} {b : Nat} {c : Chg} (h : Box6 w b c) (hb : Below w.heap.size w w') : Box6 w' b c :=
  ⟨cell_later h.1 hb, cell_later h.2.1 hb, cell_later h.2.2.1 hb, cell_later h.2.2.2.1 hb, cell_later h.2.2.2.2.1 hb, cell_later h.2.2.2.2.2 hb⟩

end Go.Proofs.Ythlkfbiclhgdoaa
