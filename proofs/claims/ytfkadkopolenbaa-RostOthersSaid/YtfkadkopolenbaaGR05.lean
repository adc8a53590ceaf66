/-
  TEXTS OF THE PROOF, one behind the other: SubTell.
-/
import Derived.Test.YtfkadkopolenbaaGR04
import Derived.BigRegion
import Derived.Deep.QuietTactic
import Derived.BigQuiet

/-
  THE CONTRACTS OF WHAT IS ASKED OF ITEMS: May, Sees, Empty, Name; the document's.
-/
namespace Go.Proofs.Ytfkadkopolenbaa
open Go.RowKit

set_option maxHeartbeats 1600000 in
set_option maxRecDepth 100000 in
theorem smay_any (a1 a2 a3 a4 a5 b1 b2 b3 b4 b5 : Bool) (w : World) :
    Calls Try.prog 35 #[.agg #[.bool a1, .bool a2, .bool a3, .bool a4, .bool a5], .agg #[.bool b1, .bool b2, .bool b3, .bool b4, .bool b5]] w fun e w' => e = .returned (.bool (suMay ⟨a1, a2, a3, a4, a5⟩ ⟨b1, b2, b3, b4, b5⟩)) ∧ w' = (w.alloc (.cells #[.bool a1, .bool a2, .bool a3, .bool a4, .bool a5] 26)).alloc (.cells #[.bool b1, .bool b2, .bool b3, .bool b4, .bool b5] 26) := by
  cases a1 <;> cases b2 <;> try
    (go_enter Try.func35, Try.ntmps35
     go_wp2
     go_ret
     refine ⟨by simp [suMay], rfl⟩
     done)
  all_goals (cases a2 <;> cases b1 <;> try
    (go_enter Try.func35, Try.ntmps35
     go_wp2
     go_ret
     refine ⟨by simp [suMay], rfl⟩
     done))
  all_goals (cases a3 <;> cases b4 <;> try
    (go_enter Try.func35, Try.ntmps35
     go_wp2
     go_ret
     refine ⟨by simp [suMay], rfl⟩
     done))
  all_goals (cases a4 <;> cases b3 <;>
    (go_enter Try.func35, Try.ntmps35
     go_wp2
     go_ret
     refine ⟨by simp [suMay], rfl⟩
     done))

set_option maxHeartbeats 1600000 in
set_option maxRecDepth 100000 in
theorem rsmay_any (a1 a2 a3 a4 a5 b1 b2 b3 b4 b5 : Bool) (w : World) :
    Calls Try.prog 56 #[.agg #[.bool a1, .bool a2, .bool a3, .bool a4, .bool a5], .agg #[.bool b1, .bool b2, .bool b3, .bool b4, .bool b5]] w fun e w' => e = .returned (.bool (suMay ⟨a1, a2, a3, a4, a5⟩ ⟨b1, b2, b3, b4, b5⟩)) ∧ w' = (w.alloc (.cells #[.bool a1, .bool a2, .bool a3, .bool a4, .bool a5] 26)).alloc (.cells #[.bool b1, .bool b2, .bool b3, .bool b4, .bool b5] 26) := by
  cases a1 <;> cases b2 <;> try
    (go_enter Try.func56, Try.ntmps56
     go_wp2
     go_ret
     refine ⟨by simp [suMay], rfl⟩
     done)
  all_goals (cases a2 <;> cases b1 <;> try
    (go_enter Try.func56, Try.ntmps56
     go_wp2
     go_ret
     refine ⟨by simp [suMay], rfl⟩
     done))
  all_goals (cases a3 <;> cases b4 <;> try
    (go_enter Try.func56, Try.ntmps56
     go_wp2
     go_ret
     refine ⟨by simp [suMay], rfl⟩
     done))
  all_goals (cases a4 <;> cases b3 <;>
    (go_enter Try.func56, Try.ntmps56
     go_wp2
     go_ret
     refine ⟨by simp [suMay], rfl⟩
     done))

set_option maxHeartbeats 1600000 in
set_option maxRecDepth 100000 in
theorem ssees_any (a1 a2 a3 a4 a5 b1 b2 b3 b4 b5 : Bool) (w : World) :
    Calls Try.prog 32 #[.agg #[.bool a1, .bool a2, .bool a3, .bool a4, .bool a5], .agg #[.bool b1, .bool b2, .bool b3, .bool b4, .bool b5]] w fun e w' => e = .returned (.bool (suSees ⟨a1, a2, a3, a4, a5⟩ ⟨b1, b2, b3, b4, b5⟩)) ∧ Below w.heap.size w w' := by
  cases a1 <;> cases a5 <;> cases b5
  all_goals
    go_enter Try.func32, Try.ntmps32
    go_wp2
    go_ret
    refine ⟨rfl, ?_⟩
    repeat (first | exact Below.refl _ _ | refine Below.setCell ?_ (by first | (simp; done) | (simp; omega)) _ | refine Below.alloc ?_ (by first | (simp; done) | (simp; omega)) _)

set_option maxHeartbeats 1600000 in
set_option maxRecDepth 100000 in
theorem rssees_any (a1 a2 a3 a4 a5 b1 b2 b3 b4 b5 : Bool) (w : World) :
    Calls Try.prog 61 #[.agg #[.bool a1, .bool a2, .bool a3, .bool a4, .bool a5], .agg #[.bool b1, .bool b2, .bool b3, .bool b4, .bool b5]] w fun e w' => e = .returned (.bool (suSees ⟨a1, a2, a3, a4, a5⟩ ⟨b1, b2, b3, b4, b5⟩)) ∧ Below w.heap.size w w' := by
  cases a1 <;> cases a5 <;> cases b5
  all_goals
    go_enter Try.func61, Try.ntmps61
    go_wp2
    go_ret
    refine ⟨rfl, ?_⟩
    repeat (first | exact Below.refl _ _ | refine Below.setCell ?_ (by first | (simp; done) | (simp; omega)) _ | refine Below.alloc ?_ (by first | (simp; done) | (simp; omega)) _)

set_option maxHeartbeats 1600000 in
set_option maxRecDepth 100000 in
theorem sempty_any (a1 a2 a3 a4 a5 : Bool) (w : World) :
    Calls Try.prog 68 #[.agg #[.bool a1, .bool a2, .bool a3, .bool a4, .bool a5]] w fun e w' => e = .returned (.bool (suEmpty ⟨a1, a2, a3, a4, a5⟩)) ∧ Below w.heap.size w w' := by
  have he := fun w => item_eql a1 a2 a3 a4 a5 false false false false false w
  have hr : itSame ⟨a1, a2, a3, a4, a5⟩ ⟨false, false, false, false, false⟩ = suEmpty ⟨a1, a2, a3, a4, a5⟩ := by cases a1 <;> cases a2 <;> cases a3 <;> cases a4 <;> cases a5 <;> rfl
  rw [hr] at he
  clear hr
  obtain ⟨r, hr⟩ : ∃ r, suEmpty ⟨a1, a2, a3, a4, a5⟩ = r := ⟨_, rfl⟩
  rw [hr] at he ⊢
  clear hr
  go_enter Try.func68, Try.ntmps68
  go_wp2
  go_ret
  refine ⟨rfl, ?_⟩
  repeat (first | exact Below.refl _ _ | refine Below.setCell ?_ (by first | (simp; done) | (simp; omega)) _ | refine Below.alloc ?_ (by first | (simp; done) | (simp; omega)) _)

set_option maxHeartbeats 1600000 in
set_option maxRecDepth 100000 in
theorem rsempty_any (a1 a2 a3 a4 a5 : Bool) (w : World) :
    Calls Try.prog 57 #[.agg #[.bool a1, .bool a2, .bool a3, .bool a4, .bool a5]] w fun e w' => e = .returned (.bool (suEmpty ⟨a1, a2, a3, a4, a5⟩)) ∧ Below w.heap.size w w' := by
  have he := fun w => item_eql a1 a2 a3 a4 a5 false false false false false w
  have hr : itSame ⟨a1, a2, a3, a4, a5⟩ ⟨false, false, false, false, false⟩ = suEmpty ⟨a1, a2, a3, a4, a5⟩ := by cases a1 <;> cases a2 <;> cases a3 <;> cases a4 <;> cases a5 <;> rfl
  rw [hr] at he
  clear hr
  obtain ⟨r, hr⟩ : ∃ r, suEmpty ⟨a1, a2, a3, a4, a5⟩ = r := ⟨_, rfl⟩
  rw [hr] at he ⊢
  clear hr
  go_enter Try.func57, Try.ntmps57
  go_wp2
  go_ret
  refine ⟨rfl, ?_⟩
  repeat (first | exact Below.refl _ _ | refine Below.setCell ?_ (by first | (simp; done) | (simp; omega)) _ | refine Below.alloc ?_ (by first | (simp; done) | (simp; omega)) _)

end Go.Proofs.Ytfkadkopolenbaa
