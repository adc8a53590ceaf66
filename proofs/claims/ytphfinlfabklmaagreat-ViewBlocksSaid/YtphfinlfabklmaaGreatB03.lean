/-
 TEXTS OF THE PROOF, one behind the other: SubOne.
-/
import Derived.Test.YtphfinlfabklmaaGreatB02

set_option maxHeartbeats 12800000
set_option maxRecDepth 100000

namespace Go.Proofs.YtphfinlfabklmaaGreat
open Go.RowKit

def prV (a b:It):Value:=.agg #[.bool a.to,.bool a.fr,.bool a.out,.bool a.inn,.bool a.bl,.bool b.to,.bool b.fr,.bool b.out,.bool b.inn,.bool b.bl]

def prE (r:It × It × Nat):Value:=.tuple #[prV r.1 r.2.1,.int .i64 r.2.2]

theorem subscribe_any (a1 a2 a3 a4 a5 b1 b2 b3 b4 b5:Bool) (w:World) :
  Calls Tryz.prog 218 #[.agg #[.bool a1,.bool a2,.bool a3,.bool a4,.bool a5,.bool b1,.bool b2,.bool b3,.bool b4,.bool b5]] w fun e w' => e=.returned (prE (suDo ⟨a1,a2,a3,a4,a5⟩ ⟨b1,b2,b3,b4,b5⟩ 1))∧Below w.heap.size w w':=by
 cases a5 <;> cases b5 <;> cases a1 <;> cases a3
 all_goals
  go_enter Tryz.func218,Tryz.ntmps218
  go_wp2
  refine bodyPost_ret (v:=_) (by simp [results,Tryz.results218,go_sem]; rfl) rfl ⟨rfl,?_⟩
  repeat (first | exact Below.refl _ _ | refine Below.setCell ?_ (by first | (simp; done) | (simp; omega)) _ | refine Below.alloc ?_ (by first | (simp; done) | (simp; omega)) _)

theorem subscribed_any (a1 a2 a3 a4 a5 b1 b2 b3 b4 b5:Bool) (w:World) :
  Calls Tryz.prog 219 #[.agg #[.bool a1,.bool a2,.bool a3,.bool a4,.bool a5,.bool b1,.bool b2,.bool b3,.bool b4,.bool b5]] w fun e w' => e=.returned (prE (suDo ⟨a1,a2,a3,a4,a5⟩ ⟨b1,b2,b3,b4,b5⟩ 2))∧Below w.heap.size w w':=by
 cases a5 <;> cases b5 <;> cases a4
 all_goals
  go_enter Tryz.func219,Tryz.ntmps219
  go_wp2
  refine bodyPost_ret (v:=_) (by simp [results,Tryz.results219,go_sem]; rfl) rfl ⟨rfl,?_⟩
  repeat (first | exact Below.refl _ _ | refine Below.setCell ?_ (by first | (simp; done) | (simp; omega)) _ | refine Below.alloc ?_ (by first | (simp; done) | (simp; omega)) _)

theorem unsubscribe_any (a1 a2 a3 a4 a5 b1 b2 b3 b4 b5:Bool) (w:World) :
  Calls Tryz.prog 220 #[.agg #[.bool a1,.bool a2,.bool a3,.bool a4,.bool a5,.bool b1,.bool b2,.bool b3,.bool b4,.bool b5]] w fun e w' => e=.returned (prE (suDo ⟨a1,a2,a3,a4,a5⟩ ⟨b1,b2,b3,b4,b5⟩ 3))∧Below w.heap.size w w':=by
 cases a1 <;> cases a3
 all_goals
  go_enter Tryz.func220,Tryz.ntmps220
  go_wp2
  refine bodyPost_ret (v:=_) (by simp [results,Tryz.results220,go_sem]; rfl) rfl ⟨rfl,?_⟩
  repeat (first | exact Below.refl _ _ | refine Below.setCell ?_ (by first | (simp; done) | (simp; omega)) _ | refine Below.alloc ?_ (by first | (simp; done) | (simp; omega)) _)

theorem unsubscribed_any (a1 a2 a3 a4 a5 b1 b2 b3 b4 b5:Bool) (w:World) :
  Calls Tryz.prog 221 #[.agg #[.bool a1,.bool a2,.bool a3,.bool a4,.bool a5,.bool b1,.bool b2,.bool b3,.bool b4,.bool b5]] w fun e w' => e=.returned (prE (suDo ⟨a1,a2,a3,a4,a5⟩ ⟨b1,b2,b3,b4,b5⟩ 4))∧Below w.heap.size w w':=by
 cases a2 <;> cases a4
 all_goals
  go_enter Tryz.func221,Tryz.ntmps221
  go_wp2
  refine bodyPost_ret (v:=_) (by simp [results,Tryz.results221,go_sem]; rfl) rfl ⟨rfl,?_⟩
  repeat (first | exact Below.refl _ _ | refine Below.setCell ?_ (by first | (simp; done) | (simp; omega)) _ | refine Below.alloc ?_ (by first | (simp; done) | (simp; omega)) _)

theorem block_any (a1 a2 a3 a4 a5 b1 b2 b3 b4 b5:Bool) (w:World) :
  Calls Tryz.prog 222 #[.agg #[.bool a1,.bool a2,.bool a3,.bool a4,.bool a5,.bool b1,.bool b2,.bool b3,.bool b4,.bool b5]] w fun e w' => e=.returned (prE (suDo ⟨a1,a2,a3,a4,a5⟩ ⟨b1,b2,b3,b4,b5⟩ 5))∧Below w.heap.size w w':=by
 cases a5
 all_goals
  go_enter Tryz.func222,Tryz.ntmps222
  go_wp2
  refine bodyPost_ret (v:=_) (by simp [results,Tryz.results222,go_sem]; rfl) rfl ⟨rfl,?_⟩
  repeat (first | exact Below.refl _ _ | refine Below.setCell ?_ (by first | (simp; done) | (simp; omega)) _ | refine Below.alloc ?_ (by first | (simp; done) | (simp; omega)) _)

theorem unblock_any (a1 a2 a3 a4 a5 b1 b2 b3 b4 b5:Bool) (w:World) :
  Calls Tryz.prog 223 #[.agg #[.bool a1,.bool a2,.bool a3,.bool a4,.bool a5,.bool b1,.bool b2,.bool b3,.bool b4,.bool b5]] w fun e w' => e=.returned (prE (suDo ⟨a1,a2,a3,a4,a5⟩ ⟨b1,b2,b3,b4,b5⟩ 6))∧Below w.heap.size w w':=by
 cases a5
 all_goals
  go_enter Tryz.func223,Tryz.ntmps223
  go_wp2
  refine bodyPost_ret (v:=_) (by simp [results,Tryz.results223,go_sem]; rfl) rfl ⟨rfl,?_⟩
  repeat (first | exact Below.refl _ _ | refine Below.setCell ?_ (by first | (simp; done) | (simp; omega)) _ | refine Below.alloc ?_ (by first | (simp; done) | (simp; omega)) _)

end Go.Proofs.YtphfinlfabklmaaGreat
