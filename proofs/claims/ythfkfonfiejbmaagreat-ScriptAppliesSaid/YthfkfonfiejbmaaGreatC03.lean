/-
  TEXTS OF THE PROOF, one behind the other: SubOne.
-/
import Derived.Test.YthfkfonfiejbmaaGreatC02

/-
  THE CONTRACTS OF WHAT IS DONE TO A PAIR OF ITEMS, kind by kind.
-/
namespace Go.Proofs.YthfkfonfiejbmaaGreat
open Go.RowKit

/-- A pair as a value. -/
def prV (a b : It) : Value := .agg #[.bool a.to, .bool a.fr, .bool a.out, .bool a.inn, .bool a.bl, .bool b.to, .bool b.fr, .bool b.out, .bool b.inn, .bool b.bl]

/-- What is told of a pair and an error. -/
def prE (r : It × It × Nat) : Value := .tuple #[prV r.1 r.2.1, .int .i64 r.2.2]

set_option maxHeartbeats 1600000 in
set_option maxRecDepth 100000 in
theorem subscribe_any (a1 a2 a3 a4 a5 b1 b2 b3 b4 b5 : Bool) (w : World) :
    Calls Tryz.prog 112 #[.agg #[.bool a1, .bool a2, .bool a3, .bool a4, .bool a5, .bool b1, .bool b2, .bool b3, .bool b4, .bool b5]] w fun e w' => e = .returned (prE (suDo ⟨a1, a2, a3, a4, a5⟩ ⟨b1, b2, b3, b4, b5⟩ 1)) ∧ Below w.heap.size w w' := by
  cases a5 <;> cases b5 <;> cases a1 <;> cases a3
  all_goals
    go_enter Tryz.func112, Tryz.ntmps112
    go_wp2
    refine bodyPost_ret (v := _) (by simp [results, Tryz.results112, go_sem]; rfl) rfl ⟨rfl, ?_⟩
    repeat (first | exact Below.refl _ _ | refine Below.setCell ?_ (by first | (simp; done) | (simp; omega)) _ | refine Below.alloc ?_ (by first | (simp; done) | (simp; omega)) _)

set_option maxHeartbeats 1600000 in
set_option maxRecDepth 100000 in
theorem subscribed_any (a1 a2 a3 a4 a5 b1 b2 b3 b4 b5 : Bool) (w : World) :
    Calls Tryz.prog 113 #[.agg #[.bool a1, .bool a2, .bool a3, .bool a4, .bool a5, .bool b1, .bool b2, .bool b3, .bool b4, .bool b5]] w fun e w' => e = .returned (prE (suDo ⟨a1, a2, a3, a4, a5⟩ ⟨b1, b2, b3, b4, b5⟩ 2)) ∧ Below w.heap.size w w' := by
  cases a5 <;> cases b5 <;> cases a4
  all_goals
    go_enter Tryz.func113, Tryz.ntmps113
    go_wp2
    refine bodyPost_ret (v := _) (by simp [results, Tryz.results113, go_sem]; rfl) rfl ⟨rfl, ?_⟩
    repeat (first | exact Below.refl _ _ | refine Below.setCell ?_ (by first | (simp; done) | (simp; omega)) _ | refine Below.alloc ?_ (by first | (simp; done) | (simp; omega)) _)

set_option maxHeartbeats 1600000 in
set_option maxRecDepth 100000 in
theorem unsubscribe_any (a1 a2 a3 a4 a5 b1 b2 b3 b4 b5 : Bool) (w : World) :
    Calls Tryz.prog 114 #[.agg #[.bool a1, .bool a2, .bool a3, .bool a4, .bool a5, .bool b1, .bool b2, .bool b3, .bool b4, .bool b5]] w fun e w' => e = .returned (prE (suDo ⟨a1, a2, a3, a4, a5⟩ ⟨b1, b2, b3, b4, b5⟩ 3)) ∧ Below w.heap.size w w' := by
  cases a1 <;> cases a3
  all_goals
    go_enter Tryz.func114, Tryz.ntmps114
    go_wp2
    refine bodyPost_ret (v := _) (by simp [results, Tryz.results114, go_sem]; rfl) rfl ⟨rfl, ?_⟩
    repeat (first | exact Below.refl _ _ | refine Below.setCell ?_ (by first | (simp; done) | (simp; omega)) _ | refine Below.alloc ?_ (by first | (simp; done) | (simp; omega)) _)

set_option maxHeartbeats 1600000 in
set_option maxRecDepth 100000 in
theorem unsubscribed_any (a1 a2 a3 a4 a5 b1 b2 b3 b4 b5 : Bool) (w : World) :
    Calls Tryz.prog 115 #[.agg #[.bool a1, .bool a2, .bool a3, .bool a4, .bool a5, .bool b1, .bool b2, .bool b3, .bool b4, .bool b5]] w fun e w' => e = .returned (prE (suDo ⟨a1, a2, a3, a4, a5⟩ ⟨b1, b2, b3, b4, b5⟩ 4)) ∧ Below w.heap.size w w' := by
  cases a2 <;> cases a4
  all_goals
    go_enter Tryz.func115, Tryz.ntmps115
    go_wp2
    refine bodyPost_ret (v := _) (by simp [results, Tryz.results115, go_sem]; rfl) rfl ⟨rfl, ?_⟩
    repeat (first | exact Below.refl _ _ | refine Below.setCell ?_ (by first | (simp; done) | (simp; omega)) _ | refine Below.alloc ?_ (by first | (simp; done) | (simp; omega)) _)

set_option maxHeartbeats 1600000 in
set_option maxRecDepth 100000 in
theorem block_any (a1 a2 a3 a4 a5 b1 b2 b3 b4 b5 : Bool) (w : World) :
    Calls Tryz.prog 116 #[.agg #[.bool a1, .bool a2, .bool a3, .bool a4, .bool a5, .bool b1, .bool b2, .bool b3, .bool b4, .bool b5]] w fun e w' => e = .returned (prE (suDo ⟨a1, a2, a3, a4, a5⟩ ⟨b1, b2, b3, b4, b5⟩ 5)) ∧ Below w.heap.size w w' := by
  cases a5
  all_goals
    go_enter Tryz.func116, Tryz.ntmps116
    go_wp2
    refine bodyPost_ret (v := _) (by simp [results, Tryz.results116, go_sem]; rfl) rfl ⟨rfl, ?_⟩
    repeat (first | exact Below.refl _ _ | refine Below.setCell ?_ (by first | (simp; done) | (simp; omega)) _ | refine Below.alloc ?_ (by first | (simp; done) | (simp; omega)) _)

set_option maxHeartbeats 1600000 in
set_option maxRecDepth 100000 in
theorem unblock_any (a1 a2 a3 a4 a5 b1 b2 b3 b4 b5 : Bool) (w : World) :
    Calls Tryz.prog 117 #[.agg #[.bool a1, .bool a2, .bool a3, .bool a4, .bool a5, .bool b1, .bool b2, .bool b3, .bool b4, .bool b5]] w fun e w' => e = .returned (prE (suDo ⟨a1, a2, a3, a4, a5⟩ ⟨b1, b2, b3, b4, b5⟩ 6)) ∧ Below w.heap.size w w' := by
  cases a5
  all_goals
    go_enter Tryz.func117, Tryz.ntmps117
    go_wp2
    refine bodyPost_ret (v := _) (by simp [results, Tryz.results117, go_sem]; rfl) rfl ⟨rfl, ?_⟩
    repeat (first | exact Below.refl _ _ | refine Below.setCell ?_ (by first | (simp; done) | (simp; omega)) _ | refine Below.alloc ?_ (by first | (simp; done) | (simp; omega)) _)

end Go.Proofs.YthfkfonfiejbmaaGreat
