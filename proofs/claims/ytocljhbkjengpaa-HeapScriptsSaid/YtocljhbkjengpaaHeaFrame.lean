/-
  FOR THE FRAMES OF LAYER 10's PROOFS: calls that came in, opened.
-/
import Derived.Test.YtocljhbkjengpaaHeaOps
import Derived.Test.YtocljhbkjengpaaOpenS
namespace Go.Proofs.Ytocljhbkjengpaa
open Go.ChangeShapes Go.WideShapes Go.ChangeAt Go.RowKit Go.Deep

section
variable {H : Type} {enc : TypeId × Value → H} {w : World} {base : Nat} {spare : Nat → Bool} {held : Bool}

theorem list5H {α : Type} {l : List α} (h : l.length = 5) : ∃ a b c d e, l = [a, b, c, d, e] := by
  match l, h with
  | [a, b, c, d, e], _ => exact ⟨a, b, c, d, e, rfl⟩

theorem trod_intH {fuel : Nat} {c : Value} {x : DataW H × List MemPlace} (h : DataW.trod enc Try.prog w base spare held fuel 3 [c] = some x) : ∃ z, c = .int .i64 z ∧ (Lit.int .i64 z).wf = true := by
  obtain ⟨z, hz, _, hw⟩ := DataW.trod_int Try.underlying3 h
  exact ⟨z, by simpa using hz, hw⟩

set_option maxRecDepth 100000 in
theorem trod_op (fuel : Nat) (cs : List Value) (x : DataW H × List MemPlace) (h : DataW.trod enc Try.prog w base spare held fuel 43 cs = some x) :
    ∃ r : HOp, cs = opVals r ∧ (Lit.int .i64 r.id).wf = true := by
  obtain ⟨xs, n, _, _, hl, hx, hf⟩ := DataW.trod_struct Try.underlying43 h
  have c5 : Try.prog.cellsOf 43 = 5 := by kernel_rfl
  have c1 : Try.prog.cellsOf 3 = 1 := by kernel_rfl
  have c3 : Try.prog.cellsOf 30 = 3 := by kernel_rfl
  rw [c5] at hl
  obtain ⟨a, b, c, d, e, rfl⟩ := list5H hl
  have get : ∀ i, i < 3 → xs[i]? = some (xs.getD i (.nil, [])) := fun i hi => by
    have : i < xs.length := by rw [hx]; exact hi
    simp [List.getD, List.getElem?_eq_getElem this]
  have f0 : DataW.trod enc Try.prog w base spare held n 3 (([a, b, c, d, e].drop 0).take (Try.prog.cellsOf 3)) = some (xs.getD 0 (.nil, [])) := (hf 0 _ rfl).trans (get 0 (by omega))
  have f1 : DataW.trod enc Try.prog w base spare held n 3 (([a, b, c, d, e].drop 1).take (Try.prog.cellsOf 3)) = some (xs.getD 1 (.nil, [])) := (hf 1 _ rfl).trans (get 1 (by omega))
  have f2 : DataW.trod enc Try.prog w base spare held n 30 (([a, b, c, d, e].drop 2).take (Try.prog.cellsOf 30)) = some (xs.getD 2 (.nil, [])) := (hf 2 _ rfl).trans (get 2 (by omega))
  rw [c1] at f0 f1
  rw [c3] at f2
  simp only [List.drop_succ_cons, List.drop_zero, List.take_succ_cons, List.take_zero] at f0 f1 f2
  obtain ⟨z0, rfl, w0⟩ := trod_intH f0
  obtain ⟨z1, rfl, w1⟩ := trod_intH f1
  obtain ⟨ys, m, _, _, _, hyl, hi⟩ := DataW.trod_array Try.underlying30 f2
  have gy : ∀ i, i < 3 → ys[i]? = some (ys.getD i (.nil, [])) := fun i hi => by
    have : i < ys.length := by rw [hyl]; exact hi
    simp [List.getD, List.getElem?_eq_getElem this]
  have g0 := (hi 0 (by omega)).trans (gy 0 (by omega))
  have g1 := (hi 1 (by omega)).trans (gy 1 (by omega))
  have g2 := (hi 2 (by omega)).trans (gy 2 (by omega))
  rw [c1] at g0 g1 g2
  simp only [Nat.mul_one, List.drop_succ_cons, List.drop_zero, List.take_succ_cons, List.take_zero] at g0 g1 g2
  obtain ⟨y0, rfl, _⟩ := trod_intH g0
  obtain ⟨y1, rfl, _⟩ := trod_intH g1
  obtain ⟨y2, rfl, _⟩ := trod_intH g2
  exact ⟨⟨z0, z1, y0, y1, y2⟩, rfl, w1⟩

set_option maxRecDepth 100000 in
/-- Calls that came in. -/
theorem open_ops {r : Reach} {b0 : Nat} {v : Value} {d : DataW H} {p : List MemPlace} (hv : Value.okWide Try.prog w r b0 22 v) (h : DataW.Trod enc Try.prog w base spare held 22 v d p) :
    ∃ l : List HOp, OpsAt w v l := by
  obtain ⟨t, h1, h2⟩ := open_rdS (ok := fun r : HOp => (Lit.int .i64 r.id).wf = true) opOK (by kernel_rfl) trod_op hv h
  exact ⟨t, h1, h2⟩

end

end Go.Proofs.Ytocljhbkjengpaa
