/-
  CHANGES IN THE LAWS OF LAYER 5: the box of one, and what Set keeps.
-/
import Derived.Test.YtocjeehoghfnmaaDigSet
namespace Go.Proofs.Ytocjeehoghfnmaa
open Go.RowKit

/-- A block of rows that is built with what it holds. -/
theorem tab_made (w : World) (B : Nat) (hB : B = w.heap.size) (T : TypeId) (t : List Row) (ht : t.length ≤ 100) (A : Array Value) (hA : A = (cellsOf t).toArray) (n : Nat) (hn : n = t.length) :
    Tab (w.alloc (.cells A T)) (.slice (some ⟨B, 0, none⟩) n n) t := by
  subst hB hA hn
  refine ⟨_, _, rfl, Nat.le_refl _, by unfold maxLen; omega, (fun e => by cases e), .inr ⟨_, _, rfl, by simp, fun i hi => cells5_of fun j u hu => ?_⟩⟩
  have hj : j < 5 := by have := (List.getElem?_eq_some_iff.1 hu).1; rwa [rowVals_len] at this
  rw [World.cell?_alloc_at _ _ _ _ rfl, Nat.zero_add, ← hu, ← cellsOf_at t i j hi hj]
  simp

theorem set_short {t : List Row} (h : Short t) {c : Chg} (hc : c.c.length ≤ 60) (hv : c.v.st.length ≤ 100) : Short (diSet t c) := by
  intro r hr
  rcases set_mem hr with h' | ⟨_, rfl⟩
  · exact h r h'
  · exact ⟨by simp only; omega, by simp only; omega⟩

theorem one_short {c : Chg} (hc : c.c.length ≤ 60) (hv : c.v.st.length ≤ 100) : Short [⟨c.c, c.v⟩] := by
  intro r hr
  simp only [List.mem_singleton] at hr
  subst hr
  exact ⟨by simp only; omega, by simp only; omega⟩

/-- The box of a change, six cells. -/
def Box6 (w : World) (b : Nat) (c : Chg) : Prop :=
  w.cell? ⟨b, 0, none⟩ = some (.string ⟨c.c.toArray⟩) ∧ w.cell? ⟨b, 1, none⟩ = some (.bool c.on) ∧ w.cell? ⟨b, 2, none⟩ = some (.int .i64 c.v.sh) ∧ w.cell? ⟨b, 3, none⟩ = some (.int .i64 c.v.pr) ∧ w.cell? ⟨b, 4, none⟩ = some (.int .i64 c.v.si) ∧ w.cell? ⟨b, 5, none⟩ = some (.string ⟨c.v.st.toArray⟩)

theorem Box6.later {w w' : World} {b : Nat} {c : Chg} (h : Box6 w b c) (hb : Below w.heap.size w w') : Box6 w' b c :=
  ⟨cell_later h.1 hb, cell_later h.2.1 hb, cell_later h.2.2.1 hb, cell_later h.2.2.2.1 hb, cell_later h.2.2.2.2.1 hb, cell_later h.2.2.2.2.2 hb⟩

theorem box6 (w : World) (c : Chg) (T : TypeId) : Box6 (w.alloc (.cells #[.string ⟨c.c.toArray⟩, .bool c.on, .int .i64 c.v.sh, .int .i64 c.v.pr, .int .i64 c.v.si, .string ⟨c.v.st.toArray⟩] T)) w.heap.size c :=
  six_cells w _ _ _ _ _ _ T

end Go.Proofs.Ytocjeehoghfnmaa
