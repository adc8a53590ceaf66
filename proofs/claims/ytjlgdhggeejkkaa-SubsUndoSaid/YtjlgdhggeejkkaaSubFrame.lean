/-
  FOR THE FRAMES OF LAYER 7's PROOFS: items that came in, opened.
-/
import Derived.Test.YtjlgdhggeejkkaaSubLive
import Derived.ProofKit
import Derived.OpenShut
import Derived.Lib.SmallJoins
import Derived.Deep.Slices
import Derived.Deep.Fields
import Derived.ChangeSame
namespace Go.Proofs.Ytjlgdhggeejkkaa
open Go.ChangeShapes Go.WideShapes Go.ChangeAt Go.RowKit Go.Deep

section
variable {H : Type} {enc : TypeId × Value → H} {w : World} {base : Nat} {spare : Nat → Bool} {held : Bool}

theorem trod_truthS {fuel : Nat} {cs : List Value} {x : DataW H × List MemPlace} (h : DataW.trod enc Try.prog w base spare held fuel 4 cs = some x) : ∃ b, cs = [.bool b] := by
  obtain ⟨b, e, _⟩ := DataW.trod_bool Try.underlying4 h
  exact ⟨b, e⟩

theorem list5S {α : Type} {l : List α} (h : l.length = 5) : ∃ a b c d e, l = [a, b, c, d, e] := by
  match l, h with
  | [a, b, c, d, e], _ => exact ⟨a, b, c, d, e, rfl⟩

set_option maxRecDepth 100000 in
/-- An item's cells. -/
theorem trod_item {fuel : Nat} {cs : List Value} {x : DataW H × List MemPlace} (h : DataW.trod enc Try.prog w base spare held fuel 23 cs = some x) :
    ∃ a1 a2 a3 a4 a5, cs = [.bool a1, .bool a2, .bool a3, .bool a4, .bool a5] := by
  obtain ⟨xs, n, _, _, hl, hx, hf⟩ := DataW.trod_struct Try.underlying23 h
  have c35 : Try.prog.cellsOf 23 = 5 := by kernel_rfl
  have c4 : Try.prog.cellsOf 4 = 1 := by kernel_rfl
  rw [c35] at hl
  obtain ⟨a, b, c, d, e, rfl⟩ := list5S hl
  have get : ∀ i, i < 5 → xs[i]? = some (xs.getD i (.nil, [])) := fun i hi => by
    have : i < xs.length := by rw [hx]; exact hi
    simp [List.getD, List.getElem?_eq_getElem this]
  have f0 : DataW.trod enc Try.prog w base spare held n 4 (([a, b, c, d, e].drop 0).take (Try.prog.cellsOf 4)) = some (xs.getD 0 (.nil, [])) := (hf 0 _ rfl).trans (get 0 (by omega))
  have f1 : DataW.trod enc Try.prog w base spare held n 4 (([a, b, c, d, e].drop 1).take (Try.prog.cellsOf 4)) = some (xs.getD 1 (.nil, [])) := (hf 1 _ rfl).trans (get 1 (by omega))
  have f2 : DataW.trod enc Try.prog w base spare held n 4 (([a, b, c, d, e].drop 2).take (Try.prog.cellsOf 4)) = some (xs.getD 2 (.nil, [])) := (hf 2 _ rfl).trans (get 2 (by omega))
  have f3 : DataW.trod enc Try.prog w base spare held n 4 (([a, b, c, d, e].drop 3).take (Try.prog.cellsOf 4)) = some (xs.getD 3 (.nil, [])) := (hf 3 _ rfl).trans (get 3 (by omega))
  have f4 : DataW.trod enc Try.prog w base spare held n 4 (([a, b, c, d, e].drop 4).take (Try.prog.cellsOf 4)) = some (xs.getD 4 (.nil, [])) := (hf 4 _ rfl).trans (get 4 (by omega))
  rw [c4] at f0 f1 f2 f3 f4
  obtain ⟨z0, e0⟩ := trod_truthS f0
  obtain ⟨z1, e1⟩ := trod_truthS f1
  obtain ⟨z2, e2⟩ := trod_truthS f2
  obtain ⟨z3, e3⟩ := trod_truthS f3
  obtain ⟨z4, e4⟩ := trod_truthS f4
  simp at e0 e1 e2 e3 e4
  subst e0 e1 e2 e3 e4
  exact ⟨_, _, _, _, _, rfl⟩

/-- An item that came in. -/
theorem open_item {r : Reach} {b0 : Nat} {v : Value} {d : DataW H} {p : List MemPlace} (hv : Value.okWide Try.prog w r b0 23 v) (h : DataW.Trod enc Try.prog w base spare held 23 v d p) :
    ∃ a1 a2 a3 a4 a5, v = .agg #[.bool a1, .bool a2, .bool a3, .bool a4, .bool a5] := by
  obtain ⟨cs, rfl, _⟩ := okWide_struct Try.underlying23 hv
  obtain ⟨fuel, hf⟩ := h
  obtain ⟨a1, a2, a3, a4, a5, hc⟩ := trod_item hf
  refine ⟨a1, a2, a3, a4, a5, ?_⟩
  obtain ⟨l⟩ := cs
  simp [Value.cells] at hc
  rw [hc]

end

end Go.Proofs.Ytjlgdhggeejkkaa
