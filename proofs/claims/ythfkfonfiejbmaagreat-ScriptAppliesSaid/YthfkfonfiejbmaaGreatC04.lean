/-
  TEXTS OF THE PROOF, one behind the other: SubEq.
-/
import Derived.Test.YthfkfonfiejbmaaGreatC03
import Derived.Laws.StructEq
import Derived.BigRegion
import Derived.Deep.QuietTactic
import Derived.BigQuiet

/-
  WHETHER TWO ITEMS ARE THE SAME: the model's word on it.
-/
namespace Go.Proofs.YthfkfonfiejbmaaGreat
open Go.RowKit

def itSame (a b : It) : Bool := a.to == b.to && (a.fr == b.fr && (a.out == b.out && (a.inn == b.inn && a.bl == b.bl)))

theorem itSame_iff {a b : It} : itSame a b = true ↔ a = b := by
  obtain ⟨a1, a2, a3, a4, a5⟩ := a
  obtain ⟨b1, b2, b3, b4, b5⟩ := b
  simp [itSame]

theorem item_eqIn (d : Nat) (a1 a2 a3 a4 a5 b1 b2 b3 b4 b5 : Bool) (w : World) :
    (Op.equalIn (d + 1 + 1) 66 (.agg #[.bool a1, .bool a2, .bool a3, .bool a4, .bool a5]) (.agg #[.bool b1, .bool b2, .bool b3, .bool b4, .bool b5])).run Tryz.prog w = .ok (itSame ⟨a1, a2, a3, a4, a5⟩ ⟨b1, b2, b3, b4, b5⟩) w := by
  have hS : Tryz.prog.underlying 66 = some (.struct (Tryz.prog.fieldsOf 66)) := by kernel_rfl
  have hp : Tryz.prog.stoodInHeld 66 = false := by kernel_rfl
  have u4 := Tryz.underlying4
  have a4' := Tryz.isAgg4
  have z4 := Tryz.sizeOf4
  rw [run_equalIn_agg w (d + 1) 66 _ _ hS hp]
  simp only [Program.fieldsOf, Tryz.underlying66]
  clear hS hp
  go_simp
  unfold itSame
  cases a1 <;> cases b1 <;> try (simp; done)
  all_goals (cases a2 <;> cases b2 <;> try (simp; done))
  all_goals (cases a3 <;> cases b3 <;> try (simp; done))
  all_goals (cases a4 <;> cases b4 <;> try (simp; done))
  all_goals (cases a5 <;> cases b5 <;> simp)

theorem item_eql (a1 a2 a3 a4 a5 b1 b2 b3 b4 b5 : Bool) (w : World) :
    (binOp .eql 66 (.agg #[.bool a1, .bool a2, .bool a3, .bool a4, .bool a5]) (.agg #[.bool b1, .bool b2, .bool b3, .bool b4, .bool b5])).run Tryz.prog w = .ok (.bool (itSame ⟨a1, a2, a3, a4, a5⟩ ⟨b1, b2, b3, b4, b5⟩)) w := by
  rw [run_eql_struct, show (10000 : Nat) = 9998 + 1 + 1 from rfl, item_eqIn 9998]
  rfl

end Go.Proofs.YthfkfonfiejbmaaGreat
