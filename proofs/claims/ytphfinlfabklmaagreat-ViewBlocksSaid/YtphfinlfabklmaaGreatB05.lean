/-
 TEXTS OF THE PROOF, one behind the other: SubTell.
-/
import Derived.Test.YtphfinlfabklmaaGreatB04
import Derived.BigRegion
import Derived.Deep.QuietTactic
import Derived.BigQuiet

set_option maxHeartbeats 12800000
set_option maxRecDepth 100000

namespace Go.Proofs.YtphfinlfabklmaaGreat
open Go.RowKit

theorem smay_any (a1 a2 a3 a4 a5 b1 b2 b3 b4 b5:Bool) (w:World) :
    Calls Tryz.prog 195 #[.agg #[.bool a1,.bool a2,.bool a3,.bool a4,.bool a5],.agg #[.bool b1,.bool b2,.bool b3,.bool b4,.bool b5]] w fun e w' => e=.returned (.bool (suMay ⟨a1,a2,a3,a4,a5⟩ ⟨b1,b2,b3,b4,b5⟩))∧w'=(w.alloc (.cells #[.bool a1,.bool a2,.bool a3,.bool a4,.bool a5] 115)).alloc (.cells #[.bool b1,.bool b2,.bool b3,.bool b4,.bool b5] 115):=by
  cases a1 <;> cases b2 <;> try
    (go_enter Tryz.func195,Tryz.ntmps195
     go_wp2
     go_ret
     refine ⟨by simp [suMay],rfl⟩
     done)
  all_goals (cases a2 <;> cases b1 <;> try
    (go_enter Tryz.func195,Tryz.ntmps195
     go_wp2
     go_ret
     refine ⟨by simp [suMay],rfl⟩
     done))
  all_goals (cases a3 <;> cases b4 <;> try
    (go_enter Tryz.func195,Tryz.ntmps195
     go_wp2
     go_ret
     refine ⟨by simp [suMay],rfl⟩
     done))
  all_goals (cases a4 <;> cases b3 <;>
    (go_enter Tryz.func195,Tryz.ntmps195
     go_wp2
     go_ret
     refine ⟨by simp [suMay],rfl⟩
     done))

theorem rsmay_any (a1 a2 a3 a4 a5 b1 b2 b3 b4 b5:Bool) (w:World) :
    Calls Tryz.prog 136 #[.agg #[.bool a1,.bool a2,.bool a3,.bool a4,.bool a5],.agg #[.bool b1,.bool b2,.bool b3,.bool b4,.bool b5]] w fun e w' => e=.returned (.bool (suMay ⟨a1,a2,a3,a4,a5⟩ ⟨b1,b2,b3,b4,b5⟩))∧w'=(w.alloc (.cells #[.bool a1,.bool a2,.bool a3,.bool a4,.bool a5] 115)).alloc (.cells #[.bool b1,.bool b2,.bool b3,.bool b4,.bool b5] 115):=by
  cases a1 <;> cases b2 <;> try
    (go_enter Tryz.func136,Tryz.ntmps136
     go_wp2
     go_ret
     refine ⟨by simp [suMay],rfl⟩
     done)
  all_goals (cases a2 <;> cases b1 <;> try
    (go_enter Tryz.func136,Tryz.ntmps136
     go_wp2
     go_ret
     refine ⟨by simp [suMay],rfl⟩
     done))
  all_goals (cases a3 <;> cases b4 <;> try
    (go_enter Tryz.func136,Tryz.ntmps136
     go_wp2
     go_ret
     refine ⟨by simp [suMay],rfl⟩
     done))
  all_goals (cases a4 <;> cases b3 <;>
    (go_enter Tryz.func136,Tryz.ntmps136
     go_wp2
     go_ret
     refine ⟨by simp [suMay],rfl⟩
     done))

theorem ssees_any (a1 a2 a3 a4 a5 b1 b2 b3 b4 b5:Bool) (w:World) :
  Calls Tryz.prog 80 #[.agg #[.bool a1,.bool a2,.bool a3,.bool a4,.bool a5],.agg #[.bool b1,.bool b2,.bool b3,.bool b4,.bool b5]] w fun e w' => e=.returned (.bool (suSees ⟨a1,a2,a3,a4,a5⟩ ⟨b1,b2,b3,b4,b5⟩))∧Below w.heap.size w w':=by
 cases a1 <;> cases a5 <;> cases b5
 all_goals
  go_enter Tryz.func80,Tryz.ntmps80
  go_wp2
  go_ret
  refine ⟨rfl,?_⟩
  repeat (first | exact Below.refl _ _ | refine Below.setCell ?_ (by first | (simp; done) | (simp; omega)) _ | refine Below.alloc ?_ (by first | (simp; done) | (simp; omega)) _)

theorem sempty_any (a1 a2 a3 a4 a5:Bool) (w:World) :
  Calls Tryz.prog 147 #[.agg #[.bool a1,.bool a2,.bool a3,.bool a4,.bool a5]] w fun e w' => e=.returned (.bool (suEmpty ⟨a1,a2,a3,a4,a5⟩))∧Below w.heap.size w w':=by
 have he:=fun w => item_eql a1 a2 a3 a4 a5 false false false false false w
 have hr:itSame ⟨a1,a2,a3,a4,a5⟩ ⟨false,false,false,false,false⟩=suEmpty ⟨a1,a2,a3,a4,a5⟩:=by cases a1 <;> cases a2 <;> cases a3 <;> cases a4 <;> cases a5 <;> rfl
 rw [hr] at he
 clear hr
 obtain⟨r,hr⟩ : ∃ r,suEmpty ⟨a1,a2,a3,a4,a5⟩=r:=⟨_,rfl⟩
 rw [hr] at he ⊢
 clear hr
 go_enter Tryz.func147,Tryz.ntmps147
 go_wp2
 go_ret
 refine ⟨rfl,?_⟩
 repeat (first | exact Below.refl _ _ | refine Below.setCell ?_ (by first | (simp; done) | (simp; omega)) _ | refine Below.alloc ?_ (by first | (simp; done) | (simp; omega)) _)

theorem rsempty_any (a1 a2 a3 a4 a5:Bool) (w:World) :
  Calls Tryz.prog 137 #[.agg #[.bool a1,.bool a2,.bool a3,.bool a4,.bool a5]] w fun e w' => e=.returned (.bool (suEmpty ⟨a1,a2,a3,a4,a5⟩))∧Below w.heap.size w w':=by
 have he:=fun w => item_eql a1 a2 a3 a4 a5 false false false false false w
 have hr:itSame ⟨a1,a2,a3,a4,a5⟩ ⟨false,false,false,false,false⟩=suEmpty ⟨a1,a2,a3,a4,a5⟩:=by cases a1 <;> cases a2 <;> cases a3 <;> cases a4 <;> cases a5 <;> rfl
 rw [hr] at he
 clear hr
 obtain⟨r,hr⟩ : ∃ r,suEmpty ⟨a1,a2,a3,a4,a5⟩=r:=⟨_,rfl⟩
 rw [hr] at he ⊢
 clear hr
 go_enter Tryz.func137,Tryz.ntmps137
 go_wp2
 go_ret
 refine ⟨rfl,?_⟩
 repeat (first | exact Below.refl _ _ | refine Below.setCell ?_ (by first | (simp; done) | (simp; omega)) _ | refine Below.alloc ?_ (by first | (simp; done) | (simp; omega)) _)

end Go.Proofs.YtphfinlfabklmaaGreat
