/-
  TEXTS OF THE PROOF, one behind the other: RosDoC.
-/
import Derived.Test.YtphfinlfabklmaaGreatA13
import Derived.Test.YtphfinlfabklmaaGreatA09
import Derived.Deep.RegionHeld3

set_option linter.unusedVariables false

/-
  LAYER 8, THE CODE: isFull; find, as one contract; Do.
-/
namespace Go.Proofs.YtphfinlfabklmaaGreat
open Go.RowKit

/-- An entry's item stored anew. -/
def setI (w : World) (B : Nat) (x1 x2 x3 x4 x5 : Bool) : World :=
  ((((w.setCell ⟨B, 2, none⟩ (.bool x1)).setCell ⟨B, 3, none⟩ (.bool x2)).setCell ⟨B, 4, none⟩ (.bool x3)).setCell ⟨B, 5, none⟩ (.bool x4)).setCell ⟨B, 6, none⟩ (.bool x5)

/-- find, of a pair: what stands there, or nothing in it. -/
theorem rfind_eq {w : World} {v : Value} {l : List Ent} (hv : Ents w v l) (hr : Rise l) (xo xc : List UInt8) {i1 i2 i3 i4 i5 q : Bool} (hi : Hid (roIt l xo xc = ⟨i1, i2, i3, i4, i5⟩)) (hq : Hid ((l.any fun x => entIs x ⟨xo, xc, It.zero⟩) = q)) :
    Calls Tryz.prog 126 #[v, .agg #[.string ⟨xo.toArray⟩, .string ⟨xc.toArray⟩, .bool false, .bool false, .bool false, .bool false, .bool false]] w fun e w' => e = .returned (.tuple #[.agg #[.string ⟨xo.toArray⟩, .string ⟨xc.toArray⟩, .bool i1, .bool i2, .bool i3, .bool i4, .bool i5], .bool q]) ∧ Below w.heap.size w w' := by
  have hq0 := hq.out
  cases q with
  | false =>
    have h0 : roIt l xo xc = It.zero := roIt_none fun e he h' => by
      rw [List.any_eq_false] at hq0
      exact hq0 e he (entIs_iff.2 h')
    have h1 := hi.out
    rw [h0] at h1
    injection h1 with e1 e2 e3 e4 e5
    subst e1 e2 e3 e4 e5
    exact find_no hv hr xo xc false false false false false hq0
  | true =>
    have ht := (entPlace_there hr ⟨xo, xc, ⟨false, false, false, false, false⟩⟩).trans hq0
    rw [Bool.and_eq_true, decide_eq_true_eq] at ht
    obtain ⟨hlt, hs⟩ := ht
    obtain ⟨⟨fo, fc, ⟨j1, j2, j3, j4, j5⟩⟩, he⟩ : ∃ r, l.getD (entPlace l ⟨xo, xc, ⟨false, false, false, false, false⟩⟩) Ent.zero = r := ⟨_, rfl⟩
    rw [he] at hs
    obtain ⟨ho, hc⟩ := entIs_iff.1 hs
    simp only at ho hc
    subst ho hc
    have hm : (⟨fo, fc, ⟨j1, j2, j3, j4, j5⟩⟩ : Ent) ∈ l := by rw [← he, getD_at hlt]; exact List.getElem_mem hlt
    have h1 := roIt_mem hr hm
    simp only at h1
    rw [h1] at hi
    have h2 := hi.out
    injection h2 with e1 e2 e3 e4 e5
    subst e1 e2 e3 e4 e5
    exact find_yes hv hr fo fc false false false false false hlt he hs

end Go.Proofs.YtphfinlfabklmaaGreat
