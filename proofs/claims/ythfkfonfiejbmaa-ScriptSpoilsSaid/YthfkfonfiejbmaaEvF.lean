/-
  FOR THE FRAMES OF PROOFS OVER EVENTS: an event that came in, opened; and a slice of them.
-/
import Derived.Test.YthfkfonfiejbmaaEvM
import Derived.Test.YthfkfonfiejbmaaOpenS
import Derived.ProofKit
import Derived.OpenShut
import Derived.Lib.SmallJoins
import Derived.Deep.Slices
import Derived.Deep.Fields
import Derived.ChangeSame
namespace Go.Proofs.Ythfkfonfiejbmaa
open Go.ChangeShapes Go.WideShapes Go.ChangeAt Go.RowKit Go.Deep

section
variable {H : Type} {enc : TypeId × Value → H} {w : World} {base : Nat} {spare : Nat → Bool} {held : Bool}

theorem trod_intE {fuel : Nat} {cs : List Value} {x : DataW H × List MemPlace} (h : DataW.trod enc Try.prog w base spare held fuel 3 cs = some x) : ∃ z, cs = [.int .i64 z] ∧ (Lit.int .i64 z).wf = true := by
  obtain ⟨z, e, _, hw⟩ := DataW.trod_int Try.underlying3 h
  exact ⟨z, e, hw⟩

theorem trod_textE {fuel : Nat} {cs : List Value} {x : DataW H × List MemPlace} (h : DataW.trod enc Try.prog w base spare held fuel 9 cs = some x) : ∃ l : List UInt8, cs = [.string ⟨l.toArray⟩] := by
  obtain ⟨s, e, _, _⟩ := DataW.trod_string Try.underlying9 h
  exact ⟨s.data.toList, by rw [e]⟩

theorem list4_valE {α : Type} {l : List α} (h : l.length = 4) : ∃ c0 c1 c2 c3, l = [c0, c1, c2, c3] := by
  match l, h with
  | [c0, c1, c2, c3], _ => exact ⟨c0, c1, c2, c3, rfl⟩

set_option maxRecDepth 100000 in
theorem trod_valE (fuel : Nat) (cs : List Value) (x : DataW H × List MemPlace) (h : DataW.trod enc Try.prog w base spare held fuel 24 cs = some x) :
    ∃ (a0 : Int) (a1 : Int) (a2 : Int) (a3 : List UInt8), cs = [.int .i64 a0, .int .i64 a1, .int .i64 a2, .string ⟨a3.toArray⟩] ∧ (Lit.int .i64 a0).wf = true ∧ (Lit.int .i64 a1).wf = true ∧ (Lit.int .i64 a2).wf = true := by
  obtain ⟨xs, n, _, _, hl, hx, hf⟩ := DataW.trod_struct Try.underlying24 h
  have cc : Try.prog.cellsOf 24 = 4 := by kernel_rfl
  have ci : Try.prog.cellsOf 3 = 1 := by kernel_rfl
  have cx : Try.prog.cellsOf 9 = 1 := by kernel_rfl
  rw [cc] at hl
  obtain ⟨c0, c1, c2, c3, rfl⟩ := list4_valE hl
  have get : ∀ i, i < 4 → xs[i]? = some (xs.getD i (.nil, [])) := fun i hi => by
    have : i < xs.length := by rw [hx]; exact hi
    simp [List.getD, List.getElem?_eq_getElem this]
  have f0 : DataW.trod enc Try.prog w base spare held n 3 (([c0, c1, c2, c3].drop 0).take (Try.prog.cellsOf 3)) = some (xs.getD 0 (.nil, [])) := (hf 0 _ rfl).trans (get 0 (by omega))
  rw [ci] at f0
  obtain ⟨z0, e0, w0⟩ := trod_intE f0
  have f1 : DataW.trod enc Try.prog w base spare held n 3 (([c0, c1, c2, c3].drop 1).take (Try.prog.cellsOf 3)) = some (xs.getD 1 (.nil, [])) := (hf 1 _ rfl).trans (get 1 (by omega))
  rw [ci] at f1
  obtain ⟨z1, e1, w1⟩ := trod_intE f1
  have f2 : DataW.trod enc Try.prog w base spare held n 3 (([c0, c1, c2, c3].drop 2).take (Try.prog.cellsOf 3)) = some (xs.getD 2 (.nil, [])) := (hf 2 _ rfl).trans (get 2 (by omega))
  rw [ci] at f2
  obtain ⟨z2, e2, w2⟩ := trod_intE f2
  have f3 : DataW.trod enc Try.prog w base spare held n 9 (([c0, c1, c2, c3].drop 3).take (Try.prog.cellsOf 9)) = some (xs.getD 3 (.nil, [])) := (hf 3 _ rfl).trans (get 3 (by omega))
  rw [cx] at f3
  obtain ⟨z3, e3⟩ := trod_textE f3
  simp at e0 e1 e2 e3
  subst e0 e1 e2 e3
  exact ⟨z0, z1, z2, z3, rfl, w0, w1, w2⟩

theorem list8_evE {α : Type} {l : List α} (h : l.length = 8) : ∃ c0 c1 c2 c3 c4 c5 c6 c7, l = [c0, c1, c2, c3, c4, c5, c6, c7] := by
  match l, h with
  | [c0, c1, c2, c3, c4, c5, c6, c7], _ => exact ⟨c0, c1, c2, c3, c4, c5, c6, c7, rfl⟩

set_option maxRecDepth 100000 in
theorem trod_evE (fuel : Nat) (cs : List Value) (x : DataW H × List MemPlace) (h : DataW.trod enc Try.prog w base spare held fuel 26 cs = some x) :
    ∃ (a0 : Int) (a1 : List UInt8) (a2 : List UInt8) (a3 : Int) (a4 : Int) (a5 : Int) (a6 : Int) (a7 : List UInt8), cs = [.int .i64 a0, .string ⟨a1.toArray⟩, .string ⟨a2.toArray⟩, .int .i64 a3, .int .i64 a4, .int .i64 a5, .int .i64 a6, .string ⟨a7.toArray⟩] ∧ (Lit.int .i64 a0).wf = true ∧ (Lit.int .i64 a3).wf = true ∧ (Lit.int .i64 a4).wf = true ∧ (Lit.int .i64 a5).wf = true ∧ (Lit.int .i64 a6).wf = true := by
  obtain ⟨xs, n, _, _, hl, hx, hf⟩ := DataW.trod_struct Try.underlying26 h
  have cc : Try.prog.cellsOf 26 = 8 := by kernel_rfl
  have ci : Try.prog.cellsOf 3 = 1 := by kernel_rfl
  have cx : Try.prog.cellsOf 9 = 1 := by kernel_rfl
  have ct4 : Try.prog.cellsOf 24 = 4 := by kernel_rfl
  rw [cc] at hl
  obtain ⟨c0, c1, c2, c3, c4, c5, c6, c7, rfl⟩ := list8_evE hl
  have get : ∀ i, i < 5 → xs[i]? = some (xs.getD i (.nil, [])) := fun i hi => by
    have : i < xs.length := by rw [hx]; exact hi
    simp [List.getD, List.getElem?_eq_getElem this]
  have f0 : DataW.trod enc Try.prog w base spare held n 3 (([c0, c1, c2, c3, c4, c5, c6, c7].drop 0).take (Try.prog.cellsOf 3)) = some (xs.getD 0 (.nil, [])) := (hf 0 _ rfl).trans (get 0 (by omega))
  rw [ci] at f0
  obtain ⟨z0, e0, w0⟩ := trod_intE f0
  have f1 : DataW.trod enc Try.prog w base spare held n 9 (([c0, c1, c2, c3, c4, c5, c6, c7].drop 1).take (Try.prog.cellsOf 9)) = some (xs.getD 1 (.nil, [])) := (hf 1 _ rfl).trans (get 1 (by omega))
  rw [cx] at f1
  obtain ⟨z1, e1⟩ := trod_textE f1
  have f2 : DataW.trod enc Try.prog w base spare held n 9 (([c0, c1, c2, c3, c4, c5, c6, c7].drop 2).take (Try.prog.cellsOf 9)) = some (xs.getD 2 (.nil, [])) := (hf 2 _ rfl).trans (get 2 (by omega))
  rw [cx] at f2
  obtain ⟨z2, e2⟩ := trod_textE f2
  have f3 : DataW.trod enc Try.prog w base spare held n 3 (([c0, c1, c2, c3, c4, c5, c6, c7].drop 3).take (Try.prog.cellsOf 3)) = some (xs.getD 3 (.nil, [])) := (hf 3 _ rfl).trans (get 3 (by omega))
  rw [ci] at f3
  obtain ⟨z3, e3, w3⟩ := trod_intE f3
  have f4 : DataW.trod enc Try.prog w base spare held n 24 (([c0, c1, c2, c3, c4, c5, c6, c7].drop 4).take (Try.prog.cellsOf 24)) = some (xs.getD 4 (.nil, [])) := (hf 4 _ rfl).trans (get 4 (by omega))
  rw [ct4] at f4
  obtain ⟨z4_0, z4_1, z4_2, z4_3, e4, w4_0, w4_1, w4_2⟩ := trod_valE _ _ _ f4
  simp at e0 e1 e2 e3 e4
  obtain ⟨rfl, rfl, rfl, rfl⟩ := e4
  subst e0 e1 e2 e3
  exact ⟨z0, z1, z2, z3, z4_0, z4_1, z4_2, z4_3, rfl, w0, w3, w4_0, w4_1, w4_2⟩

theorem trod_ev (fuel : Nat) (cs : List Value) (x : DataW H × List MemPlace) (h : DataW.trod enc Try.prog w base spare held fuel 26 cs = some x) :
    ∃ e : Ev, cs = evVals e ∧ evFit e := by
  obtain ⟨a0, a1, a2, a3, a4, a5, a6, a7, rfl, w0, w1, w2, w3, w4⟩ := trod_evE fuel cs x h
  exact ⟨⟨a0, a1, a2, a3, ⟨a4, a5, a6, a7⟩⟩, rfl, w0, w1, w2, w3, w4⟩

set_option maxRecDepth 100000 in
/-- Events that came in. -/
theorem open_evs {r : Reach} {b0 : Nat} {v : Value} {d : DataW H} {p : List MemPlace} (hv : Value.okWide Try.prog w r b0 31 v) (h : DataW.Trod enc Try.prog w base spare held 31 v d p) :
    ∃ l : List Ev, Evs w v l ∧ ∀ e ∈ l, evFit e := open_rdS (ok := evFit) evOK (by kernel_rfl) trod_ev hv h

set_option maxRecDepth 100000 in
/-- An event that came in. -/
theorem open_ev {r : Reach} {b0 : Nat} {v : Value} {d : DataW H} {p : List MemPlace} (hv : Value.okWide Try.prog w r b0 26 v) (h : DataW.Trod enc Try.prog w base spare held 26 v d p) :
    ∃ e : Ev, v = .agg #[.int .i64 e.k, .string ⟨e.u.toArray⟩, .string ⟨e.o.toArray⟩, .int .i64 e.id, .int .i64 e.v.sh, .int .i64 e.v.pr, .int .i64 e.v.si, .string ⟨e.v.st.toArray⟩] ∧ evFit e := by
  obtain ⟨cs, rfl, _⟩ := okWide_struct Try.underlying26 hv
  obtain ⟨fuel, hf⟩ := h
  obtain ⟨e, hc, w1⟩ := trod_ev _ _ _ hf
  refine ⟨e, ?_, w1⟩
  obtain ⟨l⟩ := cs
  simp [Value.cells, evVals] at hc
  rw [hc]

end

end Go.Proofs.Ythfkfonfiejbmaa
