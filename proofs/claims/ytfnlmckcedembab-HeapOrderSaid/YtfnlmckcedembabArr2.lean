/-
  AN ARRAY OF THREE ARRAYS OF THREE INTEGERS, BY VALUE, AS AN ARGUMENT: opened. Over any program.
-/
import Derived.ProofKit
import Derived.OpenShut
import Derived.WalkKit
namespace Go.Proofs.Ytfnlmckcedembab
open Go.RowKit Go.WideShapes

theorem nine {α : Type} {l : List α} (h : l.length = 9) : ∃ a b c d e f g i j, l = [a, b, c, d, e, f, g, i, j] := by
  match l, h with
  | [a, b, c, d, e, f, g, i, j], _ => exact ⟨a, b, c, d, e, f, g, i, j, rfl⟩

theorem trod_three {H : Type} {enc : TypeId × Value → H} {P : Program} {w : World} {base : Nat} {spare : Nat → Bool} {held : Bool} {e f : TypeId} {k : IntKind} (he : P.underlying e = some (.array 3 f)) (hf : P.underlying f = some (.int k)) (hcf : P.cellsOf f = 1)
    {fuel : Nat} {a b c : Value} {x : DataW H × List MemPlace} (h : DataW.trod enc P w base spare held fuel e [a, b, c] = some x) : ∃ p q r : Int, a = .int k p ∧ b = .int k q ∧ c = .int k r := by
  obtain ⟨ys, m, _, _, _, hyl, hi⟩ := DataW.trod_array he h
  have gy : ∀ i, i < 3 → ys[i]? = some (ys.getD i (.nil, [])) := fun i hi => by
    have : i < ys.length := by rw [hyl]; exact hi
    simp [List.getD, List.getElem?_eq_getElem this]
  have g0 := (hi 0 (by omega)).trans (gy 0 (by omega))
  have g1 := (hi 1 (by omega)).trans (gy 1 (by omega))
  have g2 := (hi 2 (by omega)).trans (gy 2 (by omega))
  rw [hcf] at g0 g1 g2
  simp only [Nat.mul_one, List.drop_succ_cons, List.drop_zero, List.take_succ_cons, List.take_zero] at g0 g1 g2
  obtain ⟨y0, e0, _⟩ := DataW.trod_int hf g0
  obtain ⟨y1, e1, _⟩ := DataW.trod_int hf g1
  obtain ⟨y2, e2, _⟩ := DataW.trod_int hf g2
  exact ⟨y0, y1, y2, by simpa using e0, by simpa using e1, by simpa using e2⟩

theorem open_ints_grid {H : Type} {enc : TypeId × Value → H} {P : Program} {w : World} {b0 base : Nat} {spare : Nat → Bool} {held : Bool} {r : Reach} {t e f : TypeId} {k : IntKind} {v : Value} {d : DataW H} {p : List MemPlace}
    (ht : P.underlying t = some (.array 3 e)) (he : P.underlying e = some (.array 3 f)) (hf : P.underlying f = some (.int k)) (hc : P.cellsOf t = 9) (hce : P.cellsOf e = 3) (hcf : P.cellsOf f = 1)
    (hv : Value.okWide P w r b0 t v) (h : DataW.Trod enc P w base spare held t v d p) :
    ∃ zs : List Int, v = .agg (zs.map (Value.int k)).toArray ∧ zs.length = 9 := by
  simp only [Value.okWide, ht] at hv
  obtain ⟨cs, rfl, hsz, _⟩ := hv
  obtain ⟨fuel, hf'⟩ := h
  obtain ⟨xs, m, _, _, _, hxl, hi⟩ := DataW.trod_array ht hf'
  have hcells : (Value.agg cs).cells.toList = cs.toList := rfl
  have hlen : cs.toList.length = 9 := by simp; omega
  rw [hcells, hce] at hi
  obtain ⟨l⟩ := cs
  simp only at hi hlen
  obtain ⟨c0, c1, c2, c3, c4, c5, c6, c7, c8, rfl⟩ := nine hlen
  have gx : ∀ i, i < 3 → xs[i]? = some (xs.getD i (.nil, [])) := fun i hi => by
    have : i < xs.length := by rw [hxl]; exact hi
    simp [List.getD, List.getElem?_eq_getElem this]
  have g0 := (hi 0 (by omega)).trans (gx 0 (by omega))
  have g1 := (hi 1 (by omega)).trans (gx 1 (by omega))
  have g2 := (hi 2 (by omega)).trans (gx 2 (by omega))
  simp only [Nat.zero_mul, Nat.one_mul, Nat.reduceMul, List.drop_succ_cons, List.drop_zero, List.take_succ_cons, List.take_zero] at g0 g1 g2
  obtain ⟨p0, p1, p2, rfl, rfl, rfl⟩ := trod_three he hf hcf g0
  obtain ⟨p3, p4, p5, rfl, rfl, rfl⟩ := trod_three he hf hcf g1
  obtain ⟨p6, p7, p8, rfl, rfl, rfl⟩ := trod_three he hf hcf g2
  exact ⟨[p0, p1, p2, p3, p4, p5, p6, p7, p8], rfl, rfl⟩

end Go.Proofs.Ytfnlmckcedembab
