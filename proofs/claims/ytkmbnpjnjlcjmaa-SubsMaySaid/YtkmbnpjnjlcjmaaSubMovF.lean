/-
  FOR THE FRAME OF SubsMay: moves that came in, opened.
-/
import Derived.Test.YtkmbnpjnjlcjmaaSubMov
import Derived.Test.YtkmbnpjnjlcjmaaOpenS
namespace Go.Proofs.Ytkmbnpjnjlcjmaa
open Go.ChangeShapes Go.WideShapes Go.ChangeAt Go.RowKit Go.Deep

section
variable {H : Type} {enc : TypeId × Value → H} {w : World} {base : Nat} {spare : Nat → Bool} {held : Bool}

theorem list2M {α : Type} {l : List α} (h : l.length = 2) : ∃ a b, l = [a, b] := by
  match l, h with
  | [a, b], _ => exact ⟨a, b, rfl⟩

theorem trod_intM {fuel : Nat} {c : Value} {x : DataW H × List MemPlace} (h : DataW.trod enc Try.prog w base spare held fuel 3 [c] = some x) : ∃ z, c = .int .i64 z ∧ (Lit.int .i64 z).wf = true := by
  obtain ⟨z, hz, _, hw⟩ := DataW.trod_int Try.underlying3 h
  exact ⟨z, by simpa using hz, hw⟩

theorem trod_boolM {fuel : Nat} {c : Value} {x : DataW H × List MemPlace} (h : DataW.trod enc Try.prog w base spare held fuel 4 [c] = some x) : ∃ b, c = .bool b := by
  obtain ⟨b, hb, _⟩ := DataW.trod_bool Try.underlying4 h
  exact ⟨b, by simpa using hb⟩

set_option maxRecDepth 100000 in
theorem trod_mov (fuel : Nat) (cs : List Value) (x : DataW H × List MemPlace) (h : DataW.trod enc Try.prog w base spare held fuel 53 cs = some x) :
    ∃ r : Mov, cs = movVals r ∧ (Lit.int .i64 r.k).wf = true := by
  obtain ⟨xs, n, _, _, hl, hx, hf⟩ := DataW.trod_struct Try.underlying53 h
  have c2 : Try.prog.cellsOf 53 = 2 := by kernel_rfl
  have c1 : Try.prog.cellsOf 3 = 1 := by kernel_rfl
  have c0 : Try.prog.cellsOf 4 = 1 := by kernel_rfl
  rw [c2] at hl
  obtain ⟨a, b, rfl⟩ := list2M hl
  have get : ∀ i, i < 2 → xs[i]? = some (xs.getD i (.nil, [])) := fun i hi => by
    have : i < xs.length := by rw [hx]; exact hi
    simp [List.getD, List.getElem?_eq_getElem this]
  have f0 : DataW.trod enc Try.prog w base spare held n 4 (([a, b].drop 0).take (Try.prog.cellsOf 4)) = some (xs.getD 0 (.nil, [])) := (hf 0 _ rfl).trans (get 0 (by omega))
  have f1 : DataW.trod enc Try.prog w base spare held n 3 (([a, b].drop 1).take (Try.prog.cellsOf 3)) = some (xs.getD 1 (.nil, [])) := (hf 1 _ rfl).trans (get 1 (by omega))
  rw [c0] at f0
  rw [c1] at f1
  simp only [List.drop_succ_cons, List.drop_zero, List.take_succ_cons, List.take_zero] at f0 f1
  obtain ⟨z0, rfl⟩ := trod_boolM f0
  obtain ⟨z1, rfl, w1⟩ := trod_intM f1
  exact ⟨⟨z0, z1⟩, rfl, w1⟩

set_option maxRecDepth 100000 in
/-- Moves that came in. -/
theorem open_movs {r : Reach} {b0 : Nat} {v : Value} {d : DataW H} {p : List MemPlace} (hv : Value.okWide Try.prog w r b0 47 v) (h : DataW.Trod enc Try.prog w base spare held 47 v d p) :
    ∃ l : List Mov, MovsAt w v l := by
  obtain ⟨t, h1, h2⟩ := open_rdS (ok := fun r : Mov => (Lit.int .i64 r.k).wf = true) movOK (by kernel_rfl) trod_mov hv h
  exact ⟨t, h1, h2⟩

end

end Go.Proofs.Ytkmbnpjnjlcjmaa
