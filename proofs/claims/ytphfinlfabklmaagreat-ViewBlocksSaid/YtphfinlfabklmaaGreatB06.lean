/-
 TEXTS OF THE PROOF, one behind the other: SubRact.
-/
import Derived.Test.YtphfinlfabklmaaGreatB05
import Derived.RegionTactic
import Derived.ChangeAlike

set_option maxHeartbeats 12800000
set_option maxRecDepth 100000

namespace Go.Proofs.YtphfinlfabklmaaGreat
open Go.RowKit

def actE (r:It × It × Nat):Value:=.tuple #[.agg #[.bool r.1.to,.bool r.1.fr,.bool r.1.out,.bool r.1.inn,.bool r.1.bl],.agg #[.bool r.2.1.to,.bool r.2.1.fr,.bool r.2.1.out,.bool r.2.1.inn,.bool r.2.1.bl],.int .i64 r.2.2]

theorem smay_eq (a1 a2 a3 a4 a5 b1 b2 b3 b4 b5:Bool) {r:Bool} (h:Hid (suMay ⟨a1,a2,a3,a4,a5⟩ ⟨b1,b2,b3,b4,b5⟩=r)) (w:World) :
  Calls Tryz.prog 195 #[.agg #[.bool a1,.bool a2,.bool a3,.bool a4,.bool a5],.agg #[.bool b1,.bool b2,.bool b3,.bool b4,.bool b5]] w fun e w' => e=.returned (.bool r)∧(w.alloc (.cells #[.bool a1,.bool a2,.bool a3,.bool a4,.bool a5] 115)).alloc (.cells #[.bool b1,.bool b2,.bool b3,.bool b4,.bool b5] 115)=w':=by
 have g:=smay_any a1 a2 a3 a4 a5 b1 b2 b3 b4 b5 w
 rw [h.out] at g
 exact g.mono fun _ _ ⟨he,hw⟩ => ⟨he,hw.symm⟩

theorem rsmay_eq (a1 a2 a3 a4 a5 b1 b2 b3 b4 b5:Bool) {r:Bool} (h:Hid (suMay ⟨a1,a2,a3,a4,a5⟩ ⟨b1,b2,b3,b4,b5⟩=r)) (w:World) :
  Calls Tryz.prog 136 #[.agg #[.bool a1,.bool a2,.bool a3,.bool a4,.bool a5],.agg #[.bool b1,.bool b2,.bool b3,.bool b4,.bool b5]] w fun e w' => e=.returned (.bool r)∧(w.alloc (.cells #[.bool a1,.bool a2,.bool a3,.bool a4,.bool a5] 115)).alloc (.cells #[.bool b1,.bool b2,.bool b3,.bool b4,.bool b5] 115)=w':=by
 have g:=rsmay_any a1 a2 a3 a4 a5 b1 b2 b3 b4 b5 w
 rw [h.out] at g
 exact g.mono fun _ _ ⟨he,hw⟩ => ⟨he,hw.symm⟩

theorem ract_not (a1 a2 a3 a4 a5 b1 b2 b3 b4 b5:Bool) (k:Int) (HM:Hid (suMay ⟨a1,a2,a3,a4,a5⟩ ⟨b1,b2,b3,b4,b5⟩=false)) (w:World) :
  Calls Tryz.prog 178 #[.agg #[.bool a1,.bool a2,.bool a3,.bool a4,.bool a5],.agg #[.bool b1,.bool b2,.bool b3,.bool b4,.bool b5],.int .i64 k] w fun e w' => e=.returned (actE (⟨a1,a2,a3,a4,a5⟩,⟨b1,b2,b3,b4,b5⟩,1))∧Below w.heap.size w w':=by
 all_goals
  go_enter Tryz.func178,Tryz.ntmps178
  go_wp2_with (go_at_call 136; refine (rsmay_eq _ _ _ _ _ _ _ _ _ _ HM _).mono ?_; rintro e w' ⟨rfl,rfl⟩)
  all_goals
   go_region
   try go_wp2_with fail
   refine bodyPost_ret (v:=_) (by simp [results,Tryz.results178,go_sem]; rfl) rfl ⟨rfl,?_⟩
   repeat (first | exact Below.refl _ _ | refine Below.setCell ?_ (by first | (simp; done) | (simp; omega)) _ | refine Below.alloc ?_ (by first | (simp; done) | (simp; omega)) _ | refine Below.drew ?_)

theorem ract_low (a1 a2 a3 a4 a5 b1 b2 b3 b4 b5:Bool) (k:Int) (HM:Hid (suMay ⟨a1,a2,a3,a4,a5⟩ ⟨b1,b2,b3,b4,b5⟩=true)) (hk:k < 1) (w:World) :
  Calls Tryz.prog 178 #[.agg #[.bool a1,.bool a2,.bool a3,.bool a4,.bool a5],.agg #[.bool b1,.bool b2,.bool b3,.bool b4,.bool b5],.int .i64 k] w fun e w' => e=.returned (actE (⟨a1,a2,a3,a4,a5⟩,⟨b1,b2,b3,b4,b5⟩,1))∧Below w.heap.size w w':=by
 all_goals
  go_enter Tryz.func178,Tryz.ntmps178
  go_wp2_with (go_at_call 136; refine (rsmay_eq _ _ _ _ _ _ _ _ _ _ HM _).mono ?_; rintro e w' ⟨rfl,rfl⟩)
  all_goals
   go_region
   try go_wp2_with fail
   refine bodyPost_ret (v:=_) (by simp [results,Tryz.results178,go_sem]; rfl) rfl ⟨rfl,?_⟩
   repeat (first | exact Below.refl _ _ | refine Below.setCell ?_ (by first | (simp; done) | (simp; omega)) _ | refine Below.alloc ?_ (by first | (simp; done) | (simp; omega)) _ | refine Below.drew ?_)

theorem ract_high (a1 a2 a3 a4 a5 b1 b2 b3 b4 b5:Bool) (k:Int) (HM:Hid (suMay ⟨a1,a2,a3,a4,a5⟩ ⟨b1,b2,b3,b4,b5⟩=true)) (hk:6 < k) (w:World) :
  Calls Tryz.prog 178 #[.agg #[.bool a1,.bool a2,.bool a3,.bool a4,.bool a5],.agg #[.bool b1,.bool b2,.bool b3,.bool b4,.bool b5],.int .i64 k] w fun e w' => e=.returned (actE (⟨a1,a2,a3,a4,a5⟩,⟨b1,b2,b3,b4,b5⟩,1))∧Below w.heap.size w w':=by
 have h1:¬ k < 1:=by omega
 all_goals
  go_enter Tryz.func178,Tryz.ntmps178
  go_wp2_with (go_at_call 136; refine (rsmay_eq _ _ _ _ _ _ _ _ _ _ HM _).mono ?_; rintro e w' ⟨rfl,rfl⟩)
  all_goals
   go_region
   try go_wp2_with fail
   refine bodyPost_ret (v:=_) (by simp [results,Tryz.results178,go_sem]; rfl) rfl ⟨rfl,?_⟩
   repeat (first | exact Below.refl _ _ | refine Below.setCell ?_ (by first | (simp; done) | (simp; omega)) _ | refine Below.alloc ?_ (by first | (simp; done) | (simp; omega)) _ | refine Below.drew ?_)

theorem ract_1 (a1 a2 a3 a4 a5 b1 b2 b3 b4 b5:Bool) (HM:Hid (suMay ⟨a1,a2,a3,a4,a5⟩ ⟨b1,b2,b3,b4,b5⟩=true)) (w:World) :
  Calls Tryz.prog 178 #[.agg #[.bool a1,.bool a2,.bool a3,.bool a4,.bool a5],.agg #[.bool b1,.bool b2,.bool b3,.bool b4,.bool b5],.int .i64 1] w fun e w' => e=.returned (actE (suDo ⟨a1,a2,a3,a4,a5⟩ ⟨b1,b2,b3,b4,b5⟩ 1))∧Below w.heap.size w w':=by
 cases a5 <;> cases b5 <;> cases a1 <;> cases a3
 all_goals
  go_enter Tryz.func178,Tryz.ntmps178
  go_wp2_with (go_at_call 136; refine (rsmay_eq _ _ _ _ _ _ _ _ _ _ HM _).mono ?_; rintro e w' ⟨rfl,rfl⟩)
  all_goals
   go_region
   try go_wp2_with fail
   refine bodyPost_ret (v:=_) (by simp [results,Tryz.results178,go_sem]; rfl) rfl ⟨rfl,?_⟩
   repeat (first | exact Below.refl _ _ | refine Below.setCell ?_ (by first | (simp; done) | (simp; omega)) _ | refine Below.alloc ?_ (by first | (simp; done) | (simp; omega)) _ | refine Below.drew ?_)

theorem ract_2 (a1 a2 a3 a4 a5 b1 b2 b3 b4 b5:Bool) (HM:Hid (suMay ⟨a1,a2,a3,a4,a5⟩ ⟨b1,b2,b3,b4,b5⟩=true)) (w:World) :
  Calls Tryz.prog 178 #[.agg #[.bool a1,.bool a2,.bool a3,.bool a4,.bool a5],.agg #[.bool b1,.bool b2,.bool b3,.bool b4,.bool b5],.int .i64 2] w fun e w' => e=.returned (actE (suDo ⟨a1,a2,a3,a4,a5⟩ ⟨b1,b2,b3,b4,b5⟩ 2))∧Below w.heap.size w w':=by
 cases a5 <;> cases b5 <;> cases a4
 all_goals
  go_enter Tryz.func178,Tryz.ntmps178
  go_wp2_with (go_at_call 136; refine (rsmay_eq _ _ _ _ _ _ _ _ _ _ HM _).mono ?_; rintro e w' ⟨rfl,rfl⟩)
  all_goals
   go_region
   try go_wp2_with fail
   refine bodyPost_ret (v:=_) (by simp [results,Tryz.results178,go_sem]; rfl) rfl ⟨rfl,?_⟩
   repeat (first | exact Below.refl _ _ | refine Below.setCell ?_ (by first | (simp; done) | (simp; omega)) _ | refine Below.alloc ?_ (by first | (simp; done) | (simp; omega)) _ | refine Below.drew ?_)

theorem ract_3 (a1 a2 a3 a4 a5 b1 b2 b3 b4 b5:Bool) (HM:Hid (suMay ⟨a1,a2,a3,a4,a5⟩ ⟨b1,b2,b3,b4,b5⟩=true)) (w:World) :
  Calls Tryz.prog 178 #[.agg #[.bool a1,.bool a2,.bool a3,.bool a4,.bool a5],.agg #[.bool b1,.bool b2,.bool b3,.bool b4,.bool b5],.int .i64 3] w fun e w' => e=.returned (actE (suDo ⟨a1,a2,a3,a4,a5⟩ ⟨b1,b2,b3,b4,b5⟩ 3))∧Below w.heap.size w w':=by
 cases a1 <;> cases a3
 all_goals
  go_enter Tryz.func178,Tryz.ntmps178
  go_wp2_with (go_at_call 136; refine (rsmay_eq _ _ _ _ _ _ _ _ _ _ HM _).mono ?_; rintro e w' ⟨rfl,rfl⟩)
  all_goals
   go_region
   try go_wp2_with fail
   refine bodyPost_ret (v:=_) (by simp [results,Tryz.results178,go_sem]; rfl) rfl ⟨rfl,?_⟩
   repeat (first | exact Below.refl _ _ | refine Below.setCell ?_ (by first | (simp; done) | (simp; omega)) _ | refine Below.alloc ?_ (by first | (simp; done) | (simp; omega)) _ | refine Below.drew ?_)

theorem ract_4 (a1 a2 a3 a4 a5 b1 b2 b3 b4 b5:Bool) (HM:Hid (suMay ⟨a1,a2,a3,a4,a5⟩ ⟨b1,b2,b3,b4,b5⟩=true)) (w:World) :
  Calls Tryz.prog 178 #[.agg #[.bool a1,.bool a2,.bool a3,.bool a4,.bool a5],.agg #[.bool b1,.bool b2,.bool b3,.bool b4,.bool b5],.int .i64 4] w fun e w' => e=.returned (actE (suDo ⟨a1,a2,a3,a4,a5⟩ ⟨b1,b2,b3,b4,b5⟩ 4))∧Below w.heap.size w w':=by
 cases a2 <;> cases a4
 all_goals
  go_enter Tryz.func178,Tryz.ntmps178
  go_wp2_with (go_at_call 136; refine (rsmay_eq _ _ _ _ _ _ _ _ _ _ HM _).mono ?_; rintro e w' ⟨rfl,rfl⟩)
  all_goals
   go_region
   try go_wp2_with fail
   refine bodyPost_ret (v:=_) (by simp [results,Tryz.results178,go_sem]; rfl) rfl ⟨rfl,?_⟩
   repeat (first | exact Below.refl _ _ | refine Below.setCell ?_ (by first | (simp; done) | (simp; omega)) _ | refine Below.alloc ?_ (by first | (simp; done) | (simp; omega)) _ | refine Below.drew ?_)

theorem ract_5 (a1 a2 a3 a4 a5 b1 b2 b3 b4 b5:Bool) (HM:Hid (suMay ⟨a1,a2,a3,a4,a5⟩ ⟨b1,b2,b3,b4,b5⟩=true)) (w:World) :
  Calls Tryz.prog 178 #[.agg #[.bool a1,.bool a2,.bool a3,.bool a4,.bool a5],.agg #[.bool b1,.bool b2,.bool b3,.bool b4,.bool b5],.int .i64 5] w fun e w' => e=.returned (actE (suDo ⟨a1,a2,a3,a4,a5⟩ ⟨b1,b2,b3,b4,b5⟩ 5))∧Below w.heap.size w w':=by
 cases a5
 all_goals
  go_enter Tryz.func178,Tryz.ntmps178
  go_wp2_with (go_at_call 136; refine (rsmay_eq _ _ _ _ _ _ _ _ _ _ HM _).mono ?_; rintro e w' ⟨rfl,rfl⟩)
  all_goals
   go_region
   try go_wp2_with fail
   refine bodyPost_ret (v:=_) (by simp [results,Tryz.results178,go_sem]; rfl) rfl ⟨rfl,?_⟩
   repeat (first | exact Below.refl _ _ | refine Below.setCell ?_ (by first | (simp; done) | (simp; omega)) _ | refine Below.alloc ?_ (by first | (simp; done) | (simp; omega)) _ | refine Below.drew ?_)

theorem ract_6 (a1 a2 a3 a4 a5 b1 b2 b3 b4 b5:Bool) (HM:Hid (suMay ⟨a1,a2,a3,a4,a5⟩ ⟨b1,b2,b3,b4,b5⟩=true)) (w:World) :
  Calls Tryz.prog 178 #[.agg #[.bool a1,.bool a2,.bool a3,.bool a4,.bool a5],.agg #[.bool b1,.bool b2,.bool b3,.bool b4,.bool b5],.int .i64 6] w fun e w' => e=.returned (actE (suDo ⟨a1,a2,a3,a4,a5⟩ ⟨b1,b2,b3,b4,b5⟩ 6))∧Below w.heap.size w w':=by
 cases a5
 all_goals
  go_enter Tryz.func178,Tryz.ntmps178
  go_wp2_with (go_at_call 136; refine (rsmay_eq _ _ _ _ _ _ _ _ _ _ HM _).mono ?_; rintro e w' ⟨rfl,rfl⟩)
  all_goals
   go_region
   try go_wp2_with fail
   refine bodyPost_ret (v:=_) (by simp [results,Tryz.results178,go_sem]; rfl) rfl ⟨rfl,?_⟩
   repeat (first | exact Below.refl _ _ | refine Below.setCell ?_ (by first | (simp; done) | (simp; omega)) _ | refine Below.alloc ?_ (by first | (simp; done) | (simp; omega)) _ | refine Below.drew ?_)

end Go.Proofs.YtphfinlfabklmaaGreat
