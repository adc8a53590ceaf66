/-
  TEXTS OF THE PROOF, one behind the other: SubTell.
-/
import Derived.Test.YthfkfonfiejbmaaGreatC04
import Derived.BigRegion
import Derived.Deep.QuietTactic
import Derived.BigQuiet

/-
  THE CONTRACTS OF WHAT IS ASKED OF ITEMS: May, Sees, Empty, Name; the document's.
-/
namespace Go.Proofs.YthfkfonfiejbmaaGreat
open Go.RowKit

set_option maxHeartbeats 1600000 in
set_option maxRecDepth 100000 in
theorem smay_any (a1 a2 a3 a4 a5 b1 b2 b3 b4 b5 : Bool) (w : World) :
    Calls Tryz.prog 96 #[.agg #[.bool a1, .bool a2, .bool a3, .bool a4, .bool a5], .agg #[.bool b1, .bool b2, .bool b3, .bool b4, .bool b5]] w fun e w' => e = .returned (.bool (suMay ⟨a1, a2, a3, a4, a5⟩ ⟨b1, b2, b3, b4, b5⟩)) ∧ w' = (w.alloc (.cells #[.bool a1, .bool a2, .bool a3, .bool a4, .bool a5] 66)).alloc (.cells #[.bool b1, .bool b2, .bool b3, .bool b4, .bool b5] 66) := by
  cases a1 <;> cases b2 <;> try
    (go_enter Tryz.func96, Tryz.ntmps96
     go_wp2
     go_ret
     refine ⟨by simp [suMay], rfl⟩
     done)
  all_goals (cases a2 <;> cases b1 <;> try
    (go_enter Tryz.func96, Tryz.ntmps96
     go_wp2
     go_ret
     refine ⟨by simp [suMay], rfl⟩
     done))
  all_goals (cases a3 <;> cases b4 <;> try
    (go_enter Tryz.func96, Tryz.ntmps96
     go_wp2
     go_ret
     refine ⟨by simp [suMay], rfl⟩
     done))
  all_goals (cases a4 <;> cases b3 <;>
    (go_enter Tryz.func96, Tryz.ntmps96
     go_wp2
     go_ret
     refine ⟨by simp [suMay], rfl⟩
     done))

set_option maxHeartbeats 1600000 in
set_option maxRecDepth 100000 in
theorem rsmay_any (a1 a2 a3 a4 a5 b1 b2 b3 b4 b5 : Bool) (w : World) :
    Calls Tryz.prog 38 #[.agg #[.bool a1, .bool a2, .bool a3, .bool a4, .bool a5], .agg #[.bool b1, .bool b2, .bool b3, .bool b4, .bool b5]] w fun e w' => e = .returned (.bool (suMay ⟨a1, a2, a3, a4, a5⟩ ⟨b1, b2, b3, b4, b5⟩)) ∧ w' = (w.alloc (.cells #[.bool a1, .bool a2, .bool a3, .bool a4, .bool a5] 66)).alloc (.cells #[.bool b1, .bool b2, .bool b3, .bool b4, .bool b5] 66) := by
  cases a1 <;> cases b2 <;> try
    (go_enter Tryz.func38, Tryz.ntmps38
     go_wp2
     go_ret
     refine ⟨by simp [suMay], rfl⟩
     done)
  all_goals (cases a2 <;> cases b1 <;> try
    (go_enter Tryz.func38, Tryz.ntmps38
     go_wp2
     go_ret
     refine ⟨by simp [suMay], rfl⟩
     done))
  all_goals (cases a3 <;> cases b4 <;> try
    (go_enter Tryz.func38, Tryz.ntmps38
     go_wp2
     go_ret
     refine ⟨by simp [suMay], rfl⟩
     done))
  all_goals (cases a4 <;> cases b3 <;>
    (go_enter Tryz.func38, Tryz.ntmps38
     go_wp2
     go_ret
     refine ⟨by simp [suMay], rfl⟩
     done))

set_option maxHeartbeats 1600000 in
set_option maxRecDepth 100000 in
theorem sempty_any (a1 a2 a3 a4 a5 : Bool) (w : World) :
    Calls Tryz.prog 66 #[.agg #[.bool a1, .bool a2, .bool a3, .bool a4, .bool a5]] w fun e w' => e = .returned (.bool (suEmpty ⟨a1, a2, a3, a4, a5⟩)) ∧ Below w.heap.size w w' := by
  have he := fun w => item_eql a1 a2 a3 a4 a5 false false false false false w
  have hr : itSame ⟨a1, a2, a3, a4, a5⟩ ⟨false, false, false, false, false⟩ = suEmpty ⟨a1, a2, a3, a4, a5⟩ := by cases a1 <;> cases a2 <;> cases a3 <;> cases a4 <;> cases a5 <;> rfl
  rw [hr] at he
  clear hr
  obtain ⟨r, hr⟩ : ∃ r, suEmpty ⟨a1, a2, a3, a4, a5⟩ = r := ⟨_, rfl⟩
  rw [hr] at he ⊢
  clear hr
  go_enter Tryz.func66, Tryz.ntmps66
  go_wp2
  go_ret
  refine ⟨rfl, ?_⟩
  repeat (first | exact Below.refl _ _ | refine Below.setCell ?_ (by first | (simp; done) | (simp; omega)) _ | refine Below.alloc ?_ (by first | (simp; done) | (simp; omega)) _)

set_option maxHeartbeats 1600000 in
set_option maxRecDepth 100000 in
theorem rsempty_any (a1 a2 a3 a4 a5 : Bool) (w : World) :
    Calls Tryz.prog 39 #[.agg #[.bool a1, .bool a2, .bool a3, .bool a4, .bool a5]] w fun e w' => e = .returned (.bool (suEmpty ⟨a1, a2, a3, a4, a5⟩)) ∧ Below w.heap.size w w' := by
  have he := fun w => item_eql a1 a2 a3 a4 a5 false false false false false w
  have hr : itSame ⟨a1, a2, a3, a4, a5⟩ ⟨false, false, false, false, false⟩ = suEmpty ⟨a1, a2, a3, a4, a5⟩ := by cases a1 <;> cases a2 <;> cases a3 <;> cases a4 <;> cases a5 <;> rfl
  rw [hr] at he
  clear hr
  obtain ⟨r, hr⟩ : ∃ r, suEmpty ⟨a1, a2, a3, a4, a5⟩ = r := ⟨_, rfl⟩
  rw [hr] at he ⊢
  clear hr
  go_enter Tryz.func39, Tryz.ntmps39
  go_wp2
  go_ret
  refine ⟨rfl, ?_⟩
  repeat (first | exact Below.refl _ _ | refine Below.setCell ?_ (by first | (simp; done) | (simp; omega)) _ | refine Below.alloc ?_ (by first | (simp; done) | (simp; omega)) _)

end Go.Proofs.YthfkfonfiejbmaaGreat
