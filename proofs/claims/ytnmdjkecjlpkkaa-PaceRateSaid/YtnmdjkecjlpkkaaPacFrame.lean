/-
  FOR THE FRAMES OF LAYER 16's PROOFS: configs and buckets that came in, opened.
-/
import Derived.Test.YtnmdjkecjlpkkaaPacPure
import Derived.Test.YtnmdjkecjlpkkaaProg
import Derived.ProofKit
import Derived.OpenShut
import Derived.Lib.SmallJoins
import Derived.Deep.Slices
import Derived.Deep.Fields
import Derived.ChangeSame
namespace Go.Proofs.Ytnmdjkecjlpkkaa
open Go.ChangeShapes Go.WideShapes Go.ChangeAt Go.RowKit Go.Deep

structure CfgFit (c : Cfg) : Prop where
  room : (Lit.int .i64 c.room).wf = true
  burst : (Lit.int .i64 c.burst).wf = true
  rate : (Lit.int .i64 c.rate).wf = true
  per : (Lit.int .i64 c.per).wf = true

structure BktFit (b : Bkt) : Prop where
  tok : (Lit.int .i64 b.tok).wf = true
  at' : (Lit.int .i64 b.at').wf = true

section
variable {H : Type} {enc : TypeId × Value → H} {w : World} {base : Nat} {spare : Nat → Bool} {held : Bool}

theorem list4P {α : Type} {l : List α} (h : l.length = 4) : ∃ a b c d, l = [a, b, c, d] := by
  match l, h with
  | [a, b, c, d], _ => exact ⟨a, b, c, d, rfl⟩

theorem list2P {α : Type} {l : List α} (h : l.length = 2) : ∃ a b, l = [a, b] := by
  match l, h with
  | [a, b], _ => exact ⟨a, b, rfl⟩

theorem trod_intP {fuel : Nat} {cs : List Value} {x : DataW H × List MemPlace} (h : DataW.trod enc Try.prog w base spare held fuel 3 cs = some x) : ∃ z, cs = [.int .i64 z] ∧ (Lit.int .i64 z).wf = true := by
  obtain ⟨z, e, _, hw⟩ := DataW.trod_int Try.underlying3 h
  exact ⟨z, e, hw⟩

set_option maxRecDepth 100000 in
theorem trod_cfg {fuel : Nat} {cs : List Value} {x : DataW H × List MemPlace} (h : DataW.trod enc Try.prog w base spare held fuel 52 cs = some x) :
    ∃ v : Cfg, cs = [.int .i64 v.room, .int .i64 v.burst, .int .i64 v.rate, .int .i64 v.per] ∧ CfgFit v := by
  obtain ⟨xs, n, _, _, hl, hx, hf⟩ := DataW.trod_struct Try.underlying52 h
  have c35 : Try.prog.cellsOf 52 = 4 := by kernel_rfl
  have c3 : Try.prog.cellsOf 3 = 1 := by kernel_rfl
  rw [c35] at hl
  obtain ⟨a, b, c, d, rfl⟩ := list4P hl
  have get : ∀ i, i < 4 → xs[i]? = some (xs.getD i (.nil, [])) := fun i hi => by
    have : i < xs.length := by rw [hx]; exact hi
    simp [List.getD, List.getElem?_eq_getElem this]
  have f0 : DataW.trod enc Try.prog w base spare held n 3 (([a, b, c, d].drop 0).take (Try.prog.cellsOf 3)) = some (xs.getD 0 (.nil, [])) := (hf 0 _ rfl).trans (get 0 (by omega))
  have f1 : DataW.trod enc Try.prog w base spare held n 3 (([a, b, c, d].drop 1).take (Try.prog.cellsOf 3)) = some (xs.getD 1 (.nil, [])) := (hf 1 _ rfl).trans (get 1 (by omega))
  have f2 : DataW.trod enc Try.prog w base spare held n 3 (([a, b, c, d].drop 2).take (Try.prog.cellsOf 3)) = some (xs.getD 2 (.nil, [])) := (hf 2 _ rfl).trans (get 2 (by omega))
  have f3 : DataW.trod enc Try.prog w base spare held n 3 (([a, b, c, d].drop 3).take (Try.prog.cellsOf 3)) = some (xs.getD 3 (.nil, [])) := (hf 3 _ rfl).trans (get 3 (by omega))
  rw [c3] at f0 f1 f2 f3
  obtain ⟨z0, e0, w0⟩ := trod_intP f0
  obtain ⟨z1, e1, w1⟩ := trod_intP f1
  obtain ⟨z2, e2, w2⟩ := trod_intP f2
  obtain ⟨z3, e3, w3⟩ := trod_intP f3
  simp at e0 e1 e2 e3
  subst e0 e1 e2 e3
  exact ⟨⟨z0, z1, z2, z3⟩, rfl, ⟨w0, w1, w2, w3⟩⟩

set_option maxRecDepth 100000 in
theorem trod_bkt {fuel : Nat} {cs : List Value} {x : DataW H × List MemPlace} (h : DataW.trod enc Try.prog w base spare held fuel 54 cs = some x) :
    ∃ v : Bkt, cs = [.int .i64 v.tok, .int .i64 v.at'] ∧ BktFit v := by
  obtain ⟨xs, n, _, _, hl, hx, hf⟩ := DataW.trod_struct Try.underlying54 h
  have c35 : Try.prog.cellsOf 54 = 2 := by kernel_rfl
  have c3 : Try.prog.cellsOf 3 = 1 := by kernel_rfl
  rw [c35] at hl
  obtain ⟨a, b, rfl⟩ := list2P hl
  have get : ∀ i, i < 2 → xs[i]? = some (xs.getD i (.nil, [])) := fun i hi => by
    have : i < xs.length := by rw [hx]; exact hi
    simp [List.getD, List.getElem?_eq_getElem this]
  have f0 : DataW.trod enc Try.prog w base spare held n 3 (([a, b].drop 0).take (Try.prog.cellsOf 3)) = some (xs.getD 0 (.nil, [])) := (hf 0 _ rfl).trans (get 0 (by omega))
  have f1 : DataW.trod enc Try.prog w base spare held n 3 (([a, b].drop 1).take (Try.prog.cellsOf 3)) = some (xs.getD 1 (.nil, [])) := (hf 1 _ rfl).trans (get 1 (by omega))
  rw [c3] at f0 f1
  obtain ⟨z0, e0, w0⟩ := trod_intP f0
  obtain ⟨z1, e1, w1⟩ := trod_intP f1
  simp at e0 e1
  subst e0 e1
  exact ⟨⟨z0, z1⟩, rfl, ⟨w0, w1⟩⟩

set_option maxRecDepth 100000 in
theorem open_cfg {r : Reach} {b0 : Nat} {v : Value} {d : DataW H} {p : List MemPlace} (hv : Value.okWide Try.prog w r b0 52 v) (h : DataW.Trod enc Try.prog w base spare held 52 v d p) :
    ∃ c : Cfg, v = .agg #[.int .i64 c.room, .int .i64 c.burst, .int .i64 c.rate, .int .i64 c.per] ∧ CfgFit c := by
  obtain ⟨cs, rfl, _⟩ := okWide_struct Try.underlying52 hv
  obtain ⟨fuel, hf⟩ := h
  obtain ⟨c, hc, w1⟩ := trod_cfg hf
  refine ⟨c, ?_, w1⟩
  obtain ⟨l⟩ := cs
  simp [Value.cells] at hc
  rw [hc]

set_option maxRecDepth 100000 in
theorem open_bkt {r : Reach} {b0 : Nat} {v : Value} {d : DataW H} {p : List MemPlace} (hv : Value.okWide Try.prog w r b0 54 v) (h : DataW.Trod enc Try.prog w base spare held 54 v d p) :
    ∃ c : Bkt, v = .agg #[.int .i64 c.tok, .int .i64 c.at'] ∧ BktFit c := by
  obtain ⟨cs, rfl, _⟩ := okWide_struct Try.underlying54 hv
  obtain ⟨fuel, hf⟩ := h
  obtain ⟨c, hc, w1⟩ := trod_bkt hf
  refine ⟨c, ?_, w1⟩
  obtain ⟨l⟩ := cs
  simp [Value.cells] at hc
  rw [hc]

end
end Go.Proofs.Ytnmdjkecjlpkkaa
