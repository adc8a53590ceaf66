/-
 THE PROOF OF ViewTouches: for every input the law returns true, and each argument reads behind the call as it read before. No condition.
-/
import Derived.Test.YtphfinlfabklmaaGreatB40
import Derived.Test.YtphfinlfabklmaaGreatB41
import Derived.Test.YtphfinlfabklmaaGreatB23
import Derived.Deep.DeepCutAuto
import Derived.Deep.CutBlock
import Derived.Test.YtphfinlfabklmaaGreatB13
import Derived.Test.YtphfinlfabklmaaGreatRows
import Derived.ProofKit
import Derived.OpenShut
import Derived.ShutString
import Derived.ChangeOld
import Derived.SliceStrings
import Derived.Lib.SmallJoins

set_option maxHeartbeats 12800000
set_option maxRecDepth 100000

section

namespace Go.Proofs.YtphfinlfabklmaaGreat
open Go.RowKit

theorem touch_some {t:Sta} {e:Ev} {u:Sta} (h:stApply t e=(u,0)):(stTouch e).length≤2:=by
 obtain⟨_,⟨k1,k6,_,_⟩ | ⟨k7,_,_⟩ | ⟨k8,_,_⟩⟩:=stApply_ok h
 ·rw [stTouch_two k1 k6]
  exact mrg_len _
 ·rw [stTouch_one (.inl k7)]
  simp
 ·rw [stTouch_one (.inr k8)]
  simp

theorem vwVal_zero {t:Sta} {w c:List UInt8} {v:Val} (h:vwVal t w c=(v,false)):v=Val.zero:=by
 unfold vwVal at h
 split at h
 ·cases h
 ·exact (Prod.mk.inj h).1.symm

theorem bool_neq (q:Bool):(q != q)=false:=by cases q <;> rfl

theorem vto_1 {w:World} {x y:Value} {s:Sta} (h:StAt w x y s) (kk:Int) (u c es:List UInt8) (id ea eb ed:Int) (m:List UInt8) (f1:fewSta s=false) :
  Calls Tryz.prog 5 #[.agg #[x,y],.agg #[.int .i64 kk,.string ⟨u.toArray⟩,.string ⟨c.toArray⟩,.int .i64 id,.int .i64 ea,.int .i64 eb,.int .i64 ed,.string ⟨es.toArray⟩],.string ⟨m.toArray⟩] w fun e w' => e=.returned (.bool true)∧Below w.heap.size w w':=by
 have b0:=bl_newZ w (.cells #[x,y] 25)
 have b1:=bl_newZ (w.alloc (.cells #[x,y] 25)) (.cells #[.int .i64 kk,.string ⟨u.toArray⟩,.string ⟨c.toArray⟩,.int .i64 id,.int .i64 ea,.int .i64 eb,.int .i64 ed,.string ⟨es.toArray⟩] 50)
 have HB:=hD (below2Z b0 b1)
 have H:=hD ((h.later b0).later b1)
 have SB:=newQ w (.cells #[x,y] 25)
 replace SB:=upQ SB b1
 replace SB:=hD SB
 have EB:=newQ (w.alloc (.cells #[x,y] 25)) (.cells #[.int .i64 kk,.string ⟨u.toArray⟩,.string ⟨c.toArray⟩,.int .i64 id,.int .i64 ea,.int .i64 eb,.int .i64 ed,.string ⟨es.toArray⟩] 50)
 rw [World.size_alloc] at EB
 replace EB:=hD EB
 clear b0 b1
 clear h
 have F1:=hD f1
 clear f1
 obtain⟨⟨SBc0,SBc1⟩,⟨SBf0,SBf1⟩⟩:=blk2 SB.out
 obtain⟨⟨EBc0,EBc1,EBc2,EBc3,EBc4,EBc5,EBc6,EBc7⟩,⟨EBf0,EBf1,EBf2,EBf3,EBf4,EBf5,EBf6,EBf7⟩⟩:=blk8 EB.out
 go_enter Tryz.func5,Tryz.ntmps5
 go_wp2_with fail
 clear SBc0 SBc1 SBf0 SBf1 EBc0 EBc1 EBc2 EBc3 EBc4 EBc5 EBc6 EBc7 EBf0 EBf1 EBf2 EBf3 EBf4 EBf5 EBf6 EBf7
 refine (fewst_any H.out F1).mono ?_
 rintro e w3 ⟨rfl,b3⟩
 replace SB:=hD (upQ SB.out b3)
 replace EB:=hD (upQ EB.out b3)
 replace H:=hD (H.out.later b3)
 replace HB:=hD (below2Z HB.out b3)
 clear b3
 go_wp2_with fail
 refine (live15 _).mono ?_
 rintro e w4 ⟨rfl,b4⟩
 replace SB:=hD (upQ SB.out b4)
 replace EB:=hD (upQ EB.out b4)
 replace H:=hD (H.out.later b4)
 replace HB:=hD (below2Z HB.out b4)
 clear b4
 go_wp2_with fail
 go_ret
 exact⟨rfl,HB.out⟩

theorem vto_2 {w:World} {x y:Value} {s:Sta} (h:StAt w x y s) (kk:Int) (u c es:List UInt8) (id ea eb ed:Int) (m:List UInt8) (f1:fewSta s=true) (f2:stMay s=false) :
  Calls Tryz.prog 5 #[.agg #[x,y],.agg #[.int .i64 kk,.string ⟨u.toArray⟩,.string ⟨c.toArray⟩,.int .i64 id,.int .i64 ea,.int .i64 eb,.int .i64 ed,.string ⟨es.toArray⟩],.string ⟨m.toArray⟩] w fun e w' => e=.returned (.bool true)∧Below w.heap.size w w':=by
 have b0:=bl_newZ w (.cells #[x,y] 25)
 have b1:=bl_newZ (w.alloc (.cells #[x,y] 25)) (.cells #[.int .i64 kk,.string ⟨u.toArray⟩,.string ⟨c.toArray⟩,.int .i64 id,.int .i64 ea,.int .i64 eb,.int .i64 ed,.string ⟨es.toArray⟩] 50)
 have HB:=hD (below2Z b0 b1)
 have H:=hD ((h.later b0).later b1)
 have SB:=newQ w (.cells #[x,y] 25)
 replace SB:=upQ SB b1
 replace SB:=hD SB
 have EB:=newQ (w.alloc (.cells #[x,y] 25)) (.cells #[.int .i64 kk,.string ⟨u.toArray⟩,.string ⟨c.toArray⟩,.int .i64 id,.int .i64 ea,.int .i64 eb,.int .i64 ed,.string ⟨es.toArray⟩] 50)
 rw [World.size_alloc] at EB
 replace EB:=hD EB
 clear b0 b1
 clear h
 obtain⟨HOK,he80,hs50⟩:=fewSta_V f1
 replace HOK:=hD HOK
 have F1:=hD f1
 have F2:=hD f2
 clear f1 f2
 obtain⟨⟨SBc0,SBc1⟩,⟨SBf0,SBf1⟩⟩:=blk2 SB.out
 obtain⟨⟨EBc0,EBc1,EBc2,EBc3,EBc4,EBc5,EBc6,EBc7⟩,⟨EBf0,EBf1,EBf2,EBf3,EBf4,EBf5,EBf6,EBf7⟩⟩:=blk8 EB.out
 go_enter Tryz.func5,Tryz.ntmps5
 go_wp2_with fail
 clear SBc0 SBc1 SBf0 SBf1 EBc0 EBc1 EBc2 EBc3 EBc4 EBc5 EBc6 EBc7 EBf0 EBf1 EBf2 EBf3 EBf4 EBf5 EBf6 EBf7
 refine (fewst_any H.out F1).mono ?_
 rintro e w3 ⟨rfl,b3⟩
 replace SB:=hD (upQ SB.out b3)
 replace EB:=hD (upQ EB.out b3)
 replace H:=hD (H.out.later b3)
 replace HB:=hD (below2Z HB.out b3)
 clear b3
 obtain⟨⟨SBc0,SBc1⟩,⟨SBf0,SBf1⟩⟩:=blk2 SB.out
 obtain⟨⟨EBc0,EBc1,EBc2,EBc3,EBc4,EBc5,EBc6,EBc7⟩,⟨EBf0,EBf1,EBf2,EBf3,EBf4,EBf5,EBf6,EBf7⟩⟩:=blk8 EB.out
 go_wp2_with fail
 clear SBc0 SBc1 SBf0 SBf1 EBc0 EBc1 EBc2 EBc3 EBc4 EBc5 EBc6 EBc7 EBf0 EBf1 EBf2 EBf3 EBf4 EBf5 EBf6 EBf7
 refine (rstmay_any H.out HOK.out.1 (by omega) HOK.out.2 F2).mono ?_
 rintro e w4 ⟨rfl,b4⟩
 replace SB:=hD (upQ SB.out b4)
 replace EB:=hD (upQ EB.out b4)
 replace H:=hD (H.out.later b4)
 replace HB:=hD (below2Z HB.out b4)
 clear b4
 go_wp2_with fail
 refine (live15 _).mono ?_
 rintro e w5 ⟨rfl,b5⟩
 replace SB:=hD (upQ SB.out b5)
 replace EB:=hD (upQ EB.out b5)
 replace H:=hD (H.out.later b5)
 replace HB:=hD (below2Z HB.out b5)
 clear b5
 go_wp2_with fail
 go_ret
 exact⟨rfl,HB.out⟩

theorem vto_3 {w:World} {x y:Value} {s:Sta} (h:StAt w x y s) (kk:Int) (u c es:List UInt8) (id ea eb ed:Int) (m:List UInt8) (f1:fewSta s=true) (f2:stMay s=true) (f3:shortEv ⟨kk,u,c,id,⟨ea,eb,ed,es⟩⟩=false) :
  Calls Tryz.prog 5 #[.agg #[x,y],.agg #[.int .i64 kk,.string ⟨u.toArray⟩,.string ⟨c.toArray⟩,.int .i64 id,.int .i64 ea,.int .i64 eb,.int .i64 ed,.string ⟨es.toArray⟩],.string ⟨m.toArray⟩] w fun e w' => e=.returned (.bool true)∧Below w.heap.size w w':=by
 have b0:=bl_newZ w (.cells #[x,y] 25)
 have b1:=bl_newZ (w.alloc (.cells #[x,y] 25)) (.cells #[.int .i64 kk,.string ⟨u.toArray⟩,.string ⟨c.toArray⟩,.int .i64 id,.int .i64 ea,.int .i64 eb,.int .i64 ed,.string ⟨es.toArray⟩] 50)
 have HB:=hD (below2Z b0 b1)
 have H:=hD ((h.later b0).later b1)
 have SB:=newQ w (.cells #[x,y] 25)
 replace SB:=upQ SB b1
 replace SB:=hD SB
 have EB:=newQ (w.alloc (.cells #[x,y] 25)) (.cells #[.int .i64 kk,.string ⟨u.toArray⟩,.string ⟨c.toArray⟩,.int .i64 id,.int .i64 ea,.int .i64 eb,.int .i64 ed,.string ⟨es.toArray⟩] 50)
 rw [World.size_alloc] at EB
 replace EB:=hD EB
 clear b0 b1
 clear h
 obtain⟨HOK,he80,hs50⟩:=fewSta_V f1
 replace HOK:=hD HOK
 have F1:=hD f1
 have F2:=hD f2
 have F3:=hD f3
 clear f1 f2 f3
 obtain⟨⟨SBc0,SBc1⟩,⟨SBf0,SBf1⟩⟩:=blk2 SB.out
 obtain⟨⟨EBc0,EBc1,EBc2,EBc3,EBc4,EBc5,EBc6,EBc7⟩,⟨EBf0,EBf1,EBf2,EBf3,EBf4,EBf5,EBf6,EBf7⟩⟩:=blk8 EB.out
 go_enter Tryz.func5,Tryz.ntmps5
 go_wp2_with fail
 clear SBc0 SBc1 SBf0 SBf1 EBc0 EBc1 EBc2 EBc3 EBc4 EBc5 EBc6 EBc7 EBf0 EBf1 EBf2 EBf3 EBf4 EBf5 EBf6 EBf7
 refine (fewst_any H.out F1).mono ?_
 rintro e w3 ⟨rfl,b3⟩
 replace SB:=hD (upQ SB.out b3)
 replace EB:=hD (upQ EB.out b3)
 replace H:=hD (H.out.later b3)
 replace HB:=hD (below2Z HB.out b3)
 clear b3
 obtain⟨⟨SBc0,SBc1⟩,⟨SBf0,SBf1⟩⟩:=blk2 SB.out
 obtain⟨⟨EBc0,EBc1,EBc2,EBc3,EBc4,EBc5,EBc6,EBc7⟩,⟨EBf0,EBf1,EBf2,EBf3,EBf4,EBf5,EBf6,EBf7⟩⟩:=blk8 EB.out
 go_wp2_with fail
 clear SBc0 SBc1 SBf0 SBf1 EBc0 EBc1 EBc2 EBc3 EBc4 EBc5 EBc6 EBc7 EBf0 EBf1 EBf2 EBf3 EBf4 EBf5 EBf6 EBf7
 refine (rstmay_any H.out HOK.out.1 (by omega) HOK.out.2 F2).mono ?_
 rintro e w4 ⟨rfl,b4⟩
 replace SB:=hD (upQ SB.out b4)
 replace EB:=hD (upQ EB.out b4)
 replace H:=hD (H.out.later b4)
 replace HB:=hD (below2Z HB.out b4)
 clear b4
 obtain⟨⟨SBc0,SBc1⟩,⟨SBf0,SBf1⟩⟩:=blk2 SB.out
 obtain⟨⟨EBc0,EBc1,EBc2,EBc3,EBc4,EBc5,EBc6,EBc7⟩,⟨EBf0,EBf1,EBf2,EBf3,EBf4,EBf5,EBf6,EBf7⟩⟩:=blk8 EB.out
 go_wp2_with fail
 clear SBc0 SBc1 SBf0 SBf1 EBc0 EBc1 EBc2 EBc3 EBc4 EBc5 EBc6 EBc7 EBf0 EBf1 EBf2 EBf3 EBf4 EBf5 EBf6 EBf7
 refine (short14_any kk u c es id ea eb ed F3 _).mono ?_
 rintro e w5 ⟨rfl,b5⟩
 replace SB:=hD (upQ SB.out b5)
 replace EB:=hD (upQ EB.out b5)
 replace H:=hD (H.out.later b5)
 replace HB:=hD (below2Z HB.out b5)
 clear b5
 go_wp2_with fail
 refine (live15 _).mono ?_
 rintro e w6 ⟨rfl,b6⟩
 replace SB:=hD (upQ SB.out b6)
 replace EB:=hD (upQ EB.out b6)
 replace H:=hD (H.out.later b6)
 replace HB:=hD (below2Z HB.out b6)
 clear b6
 go_wp2_with fail
 go_ret
 exact⟨rfl,HB.out⟩

theorem vto_4 {w:World} {x y:Value} {s:Sta} (h:StAt w x y s) (kk:Int) (u c es:List UInt8) (id ea eb ed:Int) (m:List UInt8) (f1:fewSta s=true) (f2:stMay s=true) (f3:shortEv ⟨kk,u,c,id,⟨ea,eb,ed,es⟩⟩=true) (k3:¬ m.length≤40) :
  Calls Tryz.prog 5 #[.agg #[x,y],.agg #[.int .i64 kk,.string ⟨u.toArray⟩,.string ⟨c.toArray⟩,.int .i64 id,.int .i64 ea,.int .i64 eb,.int .i64 ed,.string ⟨es.toArray⟩],.string ⟨m.toArray⟩] w fun e w' => e=.returned (.bool true)∧Below w.heap.size w w':=by
 have b0:=bl_newZ w (.cells #[x,y] 25)
 have b1:=bl_newZ (w.alloc (.cells #[x,y] 25)) (.cells #[.int .i64 kk,.string ⟨u.toArray⟩,.string ⟨c.toArray⟩,.int .i64 id,.int .i64 ea,.int .i64 eb,.int .i64 ed,.string ⟨es.toArray⟩] 50)
 have HB:=hD (below2Z b0 b1)
 have H:=hD ((h.later b0).later b1)
 have SB:=newQ w (.cells #[x,y] 25)
 replace SB:=upQ SB b1
 replace SB:=hD SB
 have EB:=newQ (w.alloc (.cells #[x,y] 25)) (.cells #[.int .i64 kk,.string ⟨u.toArray⟩,.string ⟨c.toArray⟩,.int .i64 id,.int .i64 ea,.int .i64 eb,.int .i64 ed,.string ⟨es.toArray⟩] 50)
 rw [World.size_alloc] at EB
 replace EB:=hD EB
 clear b0 b1
 clear h
 obtain⟨HOK,he80,hs50⟩:=fewSta_V f1
 replace HOK:=hD HOK
 obtain⟨hu,hc,hs⟩:=shortEv_get f3
 simp only at hu hc hs
 have F1:=hD f1
 have F2:=hD f2
 have F3:=hD f3
 clear f1 f2 f3
 have t1:=long_yes k3
 clear k3
 obtain⟨⟨SBc0,SBc1⟩,⟨SBf0,SBf1⟩⟩:=blk2 SB.out
 obtain⟨⟨EBc0,EBc1,EBc2,EBc3,EBc4,EBc5,EBc6,EBc7⟩,⟨EBf0,EBf1,EBf2,EBf3,EBf4,EBf5,EBf6,EBf7⟩⟩:=blk8 EB.out
 go_enter Tryz.func5,Tryz.ntmps5
 go_wp2_with fail
 clear SBc0 SBc1 SBf0 SBf1 EBc0 EBc1 EBc2 EBc3 EBc4 EBc5 EBc6 EBc7 EBf0 EBf1 EBf2 EBf3 EBf4 EBf5 EBf6 EBf7
 refine (fewst_any H.out F1).mono ?_
 rintro e w3 ⟨rfl,b3⟩
 replace SB:=hD (upQ SB.out b3)
 replace EB:=hD (upQ EB.out b3)
 replace H:=hD (H.out.later b3)
 replace HB:=hD (below2Z HB.out b3)
 clear b3
 obtain⟨⟨SBc0,SBc1⟩,⟨SBf0,SBf1⟩⟩:=blk2 SB.out
 obtain⟨⟨EBc0,EBc1,EBc2,EBc3,EBc4,EBc5,EBc6,EBc7⟩,⟨EBf0,EBf1,EBf2,EBf3,EBf4,EBf5,EBf6,EBf7⟩⟩:=blk8 EB.out
 go_wp2_with fail
 clear SBc0 SBc1 SBf0 SBf1 EBc0 EBc1 EBc2 EBc3 EBc4 EBc5 EBc6 EBc7 EBf0 EBf1 EBf2 EBf3 EBf4 EBf5 EBf6 EBf7
 refine (rstmay_any H.out HOK.out.1 (by omega) HOK.out.2 F2).mono ?_
 rintro e w4 ⟨rfl,b4⟩
 replace SB:=hD (upQ SB.out b4)
 replace EB:=hD (upQ EB.out b4)
 replace H:=hD (H.out.later b4)
 replace HB:=hD (below2Z HB.out b4)
 clear b4
 obtain⟨⟨SBc0,SBc1⟩,⟨SBf0,SBf1⟩⟩:=blk2 SB.out
 obtain⟨⟨EBc0,EBc1,EBc2,EBc3,EBc4,EBc5,EBc6,EBc7⟩,⟨EBf0,EBf1,EBf2,EBf3,EBf4,EBf5,EBf6,EBf7⟩⟩:=blk8 EB.out
 go_wp2_with fail
 clear SBc0 SBc1 SBf0 SBf1 EBc0 EBc1 EBc2 EBc3 EBc4 EBc5 EBc6 EBc7 EBf0 EBf1 EBf2 EBf3 EBf4 EBf5 EBf6 EBf7
 refine (short14_any kk u c es id ea eb ed F3 _).mono ?_
 rintro e w5 ⟨rfl,b5⟩
 replace SB:=hD (upQ SB.out b5)
 replace EB:=hD (upQ EB.out b5)
 replace H:=hD (H.out.later b5)
 replace HB:=hD (below2Z HB.out b5)
 clear b5
 go_wp2_with fail
 refine (live15 _).mono ?_
 rintro e w6 ⟨rfl,b6⟩
 replace SB:=hD (upQ SB.out b6)
 replace EB:=hD (upQ EB.out b6)
 replace H:=hD (H.out.later b6)
 replace HB:=hD (below2Z HB.out b6)
 clear b6
 go_wp2_with fail
 go_ret
 exact⟨rfl,HB.out⟩

theorem vto_5 {w:World} {x y:Value} {s:Sta} (h:StAt w x y s) (kk:Int) (u c es:List UInt8) (id ea eb ed:Int) (m:List UInt8) (f1:fewSta s=true) (f2:stMay s=true) (f3:shortEv ⟨kk,u,c,id,⟨ea,eb,ed,es⟩⟩=true) (k3:m.length≤40) {t:Sta} {n:Nat} (hap:stApply s ⟨kk,u,c,id,⟨ea,eb,ed,es⟩⟩=(t,n)) (hn:0 < n) :
  Calls Tryz.prog 5 #[.agg #[x,y],.agg #[.int .i64 kk,.string ⟨u.toArray⟩,.string ⟨c.toArray⟩,.int .i64 id,.int .i64 ea,.int .i64 eb,.int .i64 ed,.string ⟨es.toArray⟩],.string ⟨m.toArray⟩] w fun e w' => e=.returned (.bool true)∧Below w.heap.size w w':=by
 have b0:=bl_newZ w (.cells #[x,y] 25)
 have b1:=bl_newZ (w.alloc (.cells #[x,y] 25)) (.cells #[.int .i64 kk,.string ⟨u.toArray⟩,.string ⟨c.toArray⟩,.int .i64 id,.int .i64 ea,.int .i64 eb,.int .i64 ed,.string ⟨es.toArray⟩] 50)
 have HB:=hD (below2Z b0 b1)
 have H:=hD ((h.later b0).later b1)
 have SB:=newQ w (.cells #[x,y] 25)
 replace SB:=upQ SB b1
 replace SB:=hD SB
 have EB:=newQ (w.alloc (.cells #[x,y] 25)) (.cells #[.int .i64 kk,.string ⟨u.toArray⟩,.string ⟨c.toArray⟩,.int .i64 id,.int .i64 ea,.int .i64 eb,.int .i64 ed,.string ⟨es.toArray⟩] 50)
 rw [World.size_alloc] at EB
 replace EB:=hD EB
 clear b0 b1
 clear h
 obtain⟨HOK,he80,hs50⟩:=fewSta_V f1
 replace HOK:=hD HOK
 obtain⟨hu,hc,hs⟩:=shortEv_get f3
 simp only at hu hc hs
 have AP:=hD hap
 have hn1:(((n:Nat):Int) != 0)=true:=by rw [bne_iff_ne]; omega
 have hts:=stApply_err AP.out (by omega)
 subst hts
 clear hap hn
 have F1:=hD f1
 have F2:=hD f2
 have F3:=hD f3
 clear f1 f2 f3
 have t1:=long_no k3
 clear k3
 obtain⟨⟨SBc0,SBc1⟩,⟨SBf0,SBf1⟩⟩:=blk2 SB.out
 obtain⟨⟨EBc0,EBc1,EBc2,EBc3,EBc4,EBc5,EBc6,EBc7⟩,⟨EBf0,EBf1,EBf2,EBf3,EBf4,EBf5,EBf6,EBf7⟩⟩:=blk8 EB.out
 go_enter Tryz.func5,Tryz.ntmps5
 go_wp2_with fail
 clear SBc0 SBc1 SBf0 SBf1 EBc0 EBc1 EBc2 EBc3 EBc4 EBc5 EBc6 EBc7 EBf0 EBf1 EBf2 EBf3 EBf4 EBf5 EBf6 EBf7
 refine (fewst_any H.out F1).mono ?_
 rintro e w3 ⟨rfl,b3⟩
 replace SB:=hD (upQ SB.out b3)
 replace EB:=hD (upQ EB.out b3)
 replace H:=hD (H.out.later b3)
 replace HB:=hD (below2Z HB.out b3)
 clear b3
 obtain⟨⟨SBc0,SBc1⟩,⟨SBf0,SBf1⟩⟩:=blk2 SB.out
 obtain⟨⟨EBc0,EBc1,EBc2,EBc3,EBc4,EBc5,EBc6,EBc7⟩,⟨EBf0,EBf1,EBf2,EBf3,EBf4,EBf5,EBf6,EBf7⟩⟩:=blk8 EB.out
 go_wp2_with fail
 clear SBc0 SBc1 SBf0 SBf1 EBc0 EBc1 EBc2 EBc3 EBc4 EBc5 EBc6 EBc7 EBf0 EBf1 EBf2 EBf3 EBf4 EBf5 EBf6 EBf7
 refine (rstmay_any H.out HOK.out.1 (by omega) HOK.out.2 F2).mono ?_
 rintro e w4 ⟨rfl,b4⟩
 replace SB:=hD (upQ SB.out b4)
 replace EB:=hD (upQ EB.out b4)
 replace H:=hD (H.out.later b4)
 replace HB:=hD (below2Z HB.out b4)
 clear b4
 obtain⟨⟨SBc0,SBc1⟩,⟨SBf0,SBf1⟩⟩:=blk2 SB.out
 obtain⟨⟨EBc0,EBc1,EBc2,EBc3,EBc4,EBc5,EBc6,EBc7⟩,⟨EBf0,EBf1,EBf2,EBf3,EBf4,EBf5,EBf6,EBf7⟩⟩:=blk8 EB.out
 go_wp2_with fail
 clear SBc0 SBc1 SBf0 SBf1 EBc0 EBc1 EBc2 EBc3 EBc4 EBc5 EBc6 EBc7 EBf0 EBf1 EBf2 EBf3 EBf4 EBf5 EBf6 EBf7
 refine (short14_any kk u c es id ea eb ed F3 _).mono ?_
 rintro e w5 ⟨rfl,b5⟩
 replace SB:=hD (upQ SB.out b5)
 replace EB:=hD (upQ EB.out b5)
 replace H:=hD (H.out.later b5)
 replace HB:=hD (below2Z HB.out b5)
 clear b5
 obtain⟨⟨SBc0,SBc1⟩,⟨SBf0,SBf1⟩⟩:=blk2 SB.out
 obtain⟨⟨EBc0,EBc1,EBc2,EBc3,EBc4,EBc5,EBc6,EBc7⟩,⟨EBf0,EBf1,EBf2,EBf3,EBf4,EBf5,EBf6,EBf7⟩⟩:=blk8 EB.out
 go_wp2_with fail
 clear SBc0 SBc1 SBf0 SBf1 EBc0 EBc1 EBc2 EBc3 EBc4 EBc5 EBc6 EBc7 EBf0 EBf1 EBf2 EBf3 EBf4 EBf5 EBf6 EBf7
 refine (stdo_any H.out HOK.out.1 (by omega) HOK.out.2 ⟨kk,u,c,id,⟨ea,eb,ed,es⟩⟩ (by simp only; omega) (by simp only; omega) (by simp only; omega) AP.out).mono ?_
 rintro e w6 ⟨p,q,rfl,hk1,b6⟩
 replace SB:=hD (upQ SB.out b6)
 replace EB:=hD (upQ EB.out b6)
 replace H:=hD (H.out.later b6)
 replace HB:=hD (below2Z HB.out b6)
 obtain⟨pa,pc,rfl⟩:=ents_shape hk1.1 rfl
 obtain⟨qa,qc,rfl⟩:=rdS_shape hk1.2 rfl
 have K:=hD hk1
 clear hk1
 clear b6
 have b7:=bl_newZ w6 (.cells #[.slice pa t.e.length pc,.slice qa t.s.length qc] 25)
 have TB:=newQ w6 (.cells #[.slice pa t.e.length pc,.slice qa t.s.length qc] 25)
 have hTB:w.heap.size≤w6.heap.size:=HB.out.size
 replace SB:=hD (upQ SB.out b7)
 replace EB:=hD (upQ EB.out b7)
 replace H:=hD (H.out.later b7)
 replace K:=hD (K.out.later b7)
 replace HB:=hD (below2Z HB.out b7)
 clear b7
 replace TB:=hD TB
 obtain⟨⟨SBc0,SBc1⟩,⟨SBf0,SBf1⟩⟩:=blk2 SB.out
 obtain⟨⟨TBc0,TBc1⟩,⟨TBf0,TBf1⟩⟩:=blk2 TB.out
 go_wp2_with fail
 clear SBc0 SBc1 SBf0 SBf1 TBc0 TBc1 TBf0 TBf1
 generalize w6.alloc (.cells #[.slice pa t.e.length pc,.slice qa t.s.length qc] 25)=w8 at SB EB TB H K HB ⊢
 refine (vwbetween_any H.out K.out HOK.out HOK.out (by omega) (by omega) m).mono ?_
 rintro e w9 ⟨vB1,rfl,hB1,b9⟩
 replace SB:=hD (upQ SB.out b9)
 replace EB:=hD (upQ EB.out b9)
 replace TB:=hD (upQ TB.out b9)
 replace H:=hD (H.out.later b9)
 replace K:=hD (K.out.later b9)
 replace HB:=hD (below2Z HB.out b9)
 rw [between_none] at hB1
 obtain⟨ab,cb,rfl⟩:=chgs_shapeV hB1 (n:=0) rfl
 have B1:=hD hB1
 clear hB1
 clear b9
 go_wp2_with fail
 refine (live15 _).mono ?_
 rintro e w10 ⟨rfl,b10⟩
 replace HB:=hD (below2Z HB.out b10)
 clear b10
 go_wp2_with fail
 go_ret
 exact⟨rfl,HB.out⟩

theorem vto_6 {w:World} {x y:Value} {s:Sta} (h:StAt w x y s) (kk:Int) (u c es:List UInt8) (id ea eb ed:Int) (m:List UInt8) (f1:fewSta s=true) (f2:stMay s=true) (f3:shortEv ⟨kk,u,c,id,⟨ea,eb,ed,es⟩⟩=true) (k3:m.length≤40) {t:Sta} (hap:stApply s ⟨kk,u,c,id,⟨ea,eb,ed,es⟩⟩=(t,0)) :
  Calls Tryz.prog 5 #[.agg #[x,y],.agg #[.int .i64 kk,.string ⟨u.toArray⟩,.string ⟨c.toArray⟩,.int .i64 id,.int .i64 ea,.int .i64 eb,.int .i64 ed,.string ⟨es.toArray⟩],.string ⟨m.toArray⟩] w fun e w' => e=.returned (.bool true)∧Below w.heap.size w w':=by
 have b0:=bl_newZ w (.cells #[x,y] 25)
 have b1:=bl_newZ (w.alloc (.cells #[x,y] 25)) (.cells #[.int .i64 kk,.string ⟨u.toArray⟩,.string ⟨c.toArray⟩,.int .i64 id,.int .i64 ea,.int .i64 eb,.int .i64 ed,.string ⟨es.toArray⟩] 50)
 have HB:=hD (below2Z b0 b1)
 have H:=hD ((h.later b0).later b1)
 have SB:=newQ w (.cells #[x,y] 25)
 replace SB:=upQ SB b1
 replace SB:=hD SB
 have EB:=newQ (w.alloc (.cells #[x,y] 25)) (.cells #[.int .i64 kk,.string ⟨u.toArray⟩,.string ⟨c.toArray⟩,.int .i64 id,.int .i64 ea,.int .i64 eb,.int .i64 ed,.string ⟨es.toArray⟩] 50)
 rw [World.size_alloc] at EB
 replace EB:=hD EB
 clear b0 b1
 clear h
 obtain⟨HOK,he80,hs50⟩:=fewSta_V f1
 replace HOK:=hD HOK
 obtain⟨hu,hc,hs⟩:=shortEv_get f3
 simp only at hu hc hs
 have AP:=hD hap
 have hMt:=stApply_may hap
 have hle:t.e.length≤4294967:=by have:=stLen_next hap; omega
 obtain⟨hb1,hb2⟩:=between_one (w:=m) hap
 have hb3:∀ z ∈ vwBetween s t m,vwVal s m z.c ≠ vwVal t m z.c∧z.on=(vwVal t m z.c).2:=fun z hz => between_mem f2 hMt hz
 obtain⟨nb,hnb⟩ : ∃ n,(vwBetween s t m).length=n:=⟨_,rfl⟩
 have NB:=hD hnb
 rw [hnb] at hb2
 have HB2:=hD hb1
 have HB3:=hD hb3
 obtain⟨nl,hnl⟩ : ∃ n,(stTouch ⟨kk,u,c,id,⟨ea,eb,ed,es⟩⟩).length=n:=⟨_,rfl⟩
 have NL:=hD hnl
 have hnl2:nl≤2:=by rw [← hnl]; exact touch_some hap
 obtain⟨L,hL⟩ : ∃ L,stTouch ⟨kk,u,c,id,⟨ea,eb,ed,es⟩⟩=L:=⟨_,rfl⟩
 rw [hL] at NL HB2
 have HL:=hD hL
 have HMT:=hD hMt
 have HMS:=hD f2
 have KOK:=hD (stOK_may hMt)
 clear hap hMt hb1 hb3 hnb hnl hL
 have F1:=hD f1
 have F2:=hD f2
 have F3:=hD f3
 clear f1 f2 f3
 have t1:=long_no k3
 clear k3
 obtain⟨⟨SBc0,SBc1⟩,⟨SBf0,SBf1⟩⟩:=blk2 SB.out
 obtain⟨⟨EBc0,EBc1,EBc2,EBc3,EBc4,EBc5,EBc6,EBc7⟩,⟨EBf0,EBf1,EBf2,EBf3,EBf4,EBf5,EBf6,EBf7⟩⟩:=blk8 EB.out
 go_enter Tryz.func5,Tryz.ntmps5
 go_wp2_with fail
 clear SBc0 SBc1 SBf0 SBf1 EBc0 EBc1 EBc2 EBc3 EBc4 EBc5 EBc6 EBc7 EBf0 EBf1 EBf2 EBf3 EBf4 EBf5 EBf6 EBf7
 refine (fewst_any H.out F1).mono ?_
 rintro e w3 ⟨rfl,b3⟩
 replace SB:=hD (upQ SB.out b3)
 replace EB:=hD (upQ EB.out b3)
 replace H:=hD (H.out.later b3)
 replace HB:=hD (below2Z HB.out b3)
 clear b3
 obtain⟨⟨SBc0,SBc1⟩,⟨SBf0,SBf1⟩⟩:=blk2 SB.out
 obtain⟨⟨EBc0,EBc1,EBc2,EBc3,EBc4,EBc5,EBc6,EBc7⟩,⟨EBf0,EBf1,EBf2,EBf3,EBf4,EBf5,EBf6,EBf7⟩⟩:=blk8 EB.out
 go_wp2_with fail
 clear SBc0 SBc1 SBf0 SBf1 EBc0 EBc1 EBc2 EBc3 EBc4 EBc5 EBc6 EBc7 EBf0 EBf1 EBf2 EBf3 EBf4 EBf5 EBf6 EBf7
 refine (rstmay_any H.out HOK.out.1 (by omega) HOK.out.2 F2).mono ?_
 rintro e w4 ⟨rfl,b4⟩
 replace SB:=hD (upQ SB.out b4)
 replace EB:=hD (upQ EB.out b4)
 replace H:=hD (H.out.later b4)
 replace HB:=hD (below2Z HB.out b4)
 clear b4
 obtain⟨⟨SBc0,SBc1⟩,⟨SBf0,SBf1⟩⟩:=blk2 SB.out
 obtain⟨⟨EBc0,EBc1,EBc2,EBc3,EBc4,EBc5,EBc6,EBc7⟩,⟨EBf0,EBf1,EBf2,EBf3,EBf4,EBf5,EBf6,EBf7⟩⟩:=blk8 EB.out
 go_wp2_with fail
 clear SBc0 SBc1 SBf0 SBf1 EBc0 EBc1 EBc2 EBc3 EBc4 EBc5 EBc6 EBc7 EBf0 EBf1 EBf2 EBf3 EBf4 EBf5 EBf6 EBf7
 refine (short14_any kk u c es id ea eb ed F3 _).mono ?_
 rintro e w5 ⟨rfl,b5⟩
 replace SB:=hD (upQ SB.out b5)
 replace EB:=hD (upQ EB.out b5)
 replace H:=hD (H.out.later b5)
 replace HB:=hD (below2Z HB.out b5)
 clear b5
 obtain⟨⟨SBc0,SBc1⟩,⟨SBf0,SBf1⟩⟩:=blk2 SB.out
 obtain⟨⟨EBc0,EBc1,EBc2,EBc3,EBc4,EBc5,EBc6,EBc7⟩,⟨EBf0,EBf1,EBf2,EBf3,EBf4,EBf5,EBf6,EBf7⟩⟩:=blk8 EB.out
 go_wp2_with fail
 clear SBc0 SBc1 SBf0 SBf1 EBc0 EBc1 EBc2 EBc3 EBc4 EBc5 EBc6 EBc7 EBf0 EBf1 EBf2 EBf3 EBf4 EBf5 EBf6 EBf7
 refine (stdo_any H.out HOK.out.1 (by omega) HOK.out.2 ⟨kk,u,c,id,⟨ea,eb,ed,es⟩⟩ (by simp only; omega) (by simp only; omega) (by simp only; omega) AP.out).mono ?_
 rintro e w6 ⟨p,q,rfl,hk1,b6⟩
 replace SB:=hD (upQ SB.out b6)
 replace EB:=hD (upQ EB.out b6)
 replace H:=hD (H.out.later b6)
 replace HB:=hD (below2Z HB.out b6)
 obtain⟨pa,pc,rfl⟩:=ents_shape hk1.1 rfl
 obtain⟨qa,qc,rfl⟩:=rdS_shape hk1.2 rfl
 have K:=hD hk1
 clear hk1
 clear b6
 have b7:=bl_newZ w6 (.cells #[.slice pa t.e.length pc,.slice qa t.s.length qc] 25)
 have TB:=newQ w6 (.cells #[.slice pa t.e.length pc,.slice qa t.s.length qc] 25)
 have hTB:w.heap.size≤w6.heap.size:=HB.out.size
 replace SB:=hD (upQ SB.out b7)
 replace EB:=hD (upQ EB.out b7)
 replace H:=hD (H.out.later b7)
 replace K:=hD (K.out.later b7)
 replace HB:=hD (below2Z HB.out b7)
 clear b7
 replace TB:=hD TB
 obtain⟨⟨SBc0,SBc1⟩,⟨SBf0,SBf1⟩⟩:=blk2 SB.out
 obtain⟨⟨TBc0,TBc1⟩,⟨TBf0,TBf1⟩⟩:=blk2 TB.out
 go_wp2_with fail
 clear SBc0 SBc1 SBf0 SBf1 TBc0 TBc1 TBf0 TBf1
 generalize w6.alloc (.cells #[.slice pa t.e.length pc,.slice qa t.s.length qc] 25)=w8 at SB EB TB H K HB ⊢
 refine (vwbetween_any H.out K.out HOK.out KOK.out (by omega) hle m).mono ?_
 rintro e w9 ⟨vB1,rfl,hB1,b9⟩
 replace SB:=hD (upQ SB.out b9)
 replace EB:=hD (upQ EB.out b9)
 replace TB:=hD (upQ TB.out b9)
 replace H:=hD (H.out.later b9)
 replace K:=hD (K.out.later b9)
 replace HB:=hD (below2Z HB.out b9)
 obtain⟨ab,cb,rfl⟩:=chgs_shapeV hB1 NB.out
 have B1:=hD hB1
 clear hB1
 clear b9
 obtain⟨⟨EBc0,EBc1,EBc2,EBc3,EBc4,EBc5,EBc6,EBc7⟩,⟨EBf0,EBf1,EBf2,EBf3,EBf4,EBf5,EBf6,EBf7⟩⟩:=blk8 EB.out
 go_wp2_with fail
 clear EBc0 EBc1 EBc2 EBc3 EBc4 EBc5 EBc6 EBc7 EBf0 EBf1 EBf2 EBf3 EBf4 EBf5 EBf6 EBf7
 refine (touch_any ⟨kk,u,c,id,⟨ea,eb,ed,es⟩⟩ _).mono ?_
 rintro e w10 ⟨vA2,rfl,hA2,b10⟩
 replace SB:=hD (upQ SB.out b10)
 replace EB:=hD (upQ EB.out b10)
 replace TB:=hD (upQ TB.out b10)
 replace H:=hD (H.out.later b10)
 replace K:=hD (K.out.later b10)
 replace B1:=hD (Chgs.later B1.out b10)
 replace HB:=hD (below2Z HB.out b10)
 rw [HL.out] at hA2
 obtain⟨a2,c2,rfl⟩:=texts_shape hA2 NL.out
 have A2:=hD hA2
 clear hA2
 clear b10
 go_wp2_with fail
 go_loopw [11] (fun i wr => ∃ k:Nat,k≤nb∧i=.int .i64 k∧Hid (Below w10.heap.size w10 wr)) (fun i _ => nb - (intOf i).toNat)
 case atStart => exact⟨0,by omega,rfl,Below.refl _ _⟩
 case round =>
  obtain⟨k,hk,rfl,HN⟩:=hrel
  by_cases hlt:k < nb
  ·obtain⟨wq,hwq⟩ : ∃ X,X=wr:=⟨_,rfl⟩
   subst hwq
   obtain⟨b,off,rfl,hcc⟩:=B1.out.row HN.out k (by rw [NB.out]; exact hlt)
   have hmem:(vwBetween s t m).getD k Chg.zero ∈ vwBetween s t m:=by rw [List.getD_eq_getElem?_getD,List.getElem?_eq_getElem (by rw [NB.out]; exact hlt)]; exact List.getElem_mem _
   have hin:=HB2.out _ hmem
   obtain⟨hne,hon⟩:=HB3.out _ hmem
   obtain⟨⟨zc,zo,zv⟩,hz⟩ : ∃ z,(vwBetween s t m).getD k Chg.zero=z:=⟨_,rfl⟩
   rw [hz] at hcc hin hne hon
   simp only at hin hne hon
   obtain⟨h0,h1,-⟩:=hcc
   have C0:=hD h0
   have C1:=hD h1
   clear h0 h1 hz hmem
   have hkn:(0:Int)≤(k:Int):=by omega
   have hki:(k:Int) < (nb:Int):=by omega
   obtain⟨⟨⟨va,vb,vc,vs⟩,r1⟩,hv1⟩ : ∃ p,vwVal s m zc=p:=⟨_,rfl⟩
   obtain⟨⟨⟨ya,yb,yc,ys⟩,r2⟩,hv2⟩ : ∃ p,vwVal t m zc=p:=⟨_,rfl⟩
   have HV1:Hid (vwValue s m zc=(⟨va,vb,vc,vs⟩,r1)):=hD (by rw [vwValue_is HMS.out]; exact hv1)
   have HV2:Hid (vwValue t m zc=(⟨ya,yb,yc,ys⟩,r2)):=hD (by rw [vwValue_is HMT.out]; exact hv2)
   rw [hv1,hv2] at hne
   rw [hv2] at hon
   simp only at hon
   obtain rfl:r2=zo:=hon.symm
   have hor:(!r1 && !r2)=false:=by
    cases r1 with
    | true => rfl
    | false =>
     cases r2 with
     | true => rfl
     | false =>
      exfalso
      rw [vwVal_zero hv1,vwVal_zero hv2] at hne
      exact hne rfl
   have HIN:=hD hin
   clear hin hne hv1 hv2
   replace SB:=hD (upQ SB.out HN.out)
   replace EB:=hD (upQ EB.out HN.out)
   replace TB:=hD (upQ TB.out HN.out)
   replace H:=hD (H.out.later HN.out)
   replace K:=hD (K.out.later HN.out)
   replace B1:=hD (Chgs.later B1.out HN.out)
   replace A2:=hD (Texts.later A2.out HN.out)
   replace HB:=hD (below2Z HB.out HN.out)
   have HX:=HN
   go_wp2_with fail
   go_loopw [12,13] (fun a i ws => ∃ (j:Nat) (am:Bool),j≤nl∧a=.bool am∧Hid (decide (zc ∈ L.take j)=am)∧i=.int .i64 j∧Hid (Below wq.heap.size wq ws)) (fun _ i _ => nl - (intOf i).toNat)
   case atStart => exact⟨0,false,by omega,rfl,by show _=_; simp,rfl,Below.refl _ _⟩
   case round =>
    obtain⟨j,am,hj,rfl,HAM,rfl,HN2⟩:=hrel
    by_cases hlt2:j < nl
    ·obtain⟨b2,off2,rfl,hcc⟩:=A2.out.cell HN2.out j (by rw [NL.out]; exact hlt2)
     have hnx:=mem_next (l:=L) (k:=j) (by rw [NL.out]; exact hlt2) zc
     obtain⟨q2,hq2⟩ : ∃ q,L.getD j []=q:=⟨_,rfl⟩
     rw [HAM.out,hq2] at hnx
     rw [hq2] at hcc
     clear hq2
     have hkn2:(0:Int)≤(j:Int):=by omega
     have hki2:(j:Int) < (nl:Int):=by omega
     have B5:=hD HN2.out.drew
     have c0:=cell_later C0.out HN2.out
     cases am with
     | true =>
      have HA2:Hid (decide (zc ∈ L.take (j+1))=true):=hD (by rw [hnx]; rfl)
      clear hnx
      go_wp2_with fail
      go_region
      all_goals go_wp2_with fail
      all_goals go_roundw
      case rel => exact⟨j+1,true,by omega,rfl,HA2,by go_num,B5⟩
      case measure => simp [intOf]; omega
     | false =>
      obtain⟨bz,hbz⟩ : ∃ b,(zc == q2)=b:=⟨_,rfl⟩
      have HA2:Hid (decide (zc ∈ L.take (j+1))=bz):=hD (by rw [hnx,Bool.beq_comm,hbz]; rfl)
      clear hnx
      cases bz with
      | true =>
       go_wp2_with fail
       go_region
       all_goals go_wp2_with fail
       all_goals go_roundw
       case rel => exact⟨j+1,true,by omega,rfl,HA2,by go_num,B5⟩
       case measure => simp [intOf]; omega
      | false =>
       go_wp2_with fail
       go_region
       all_goals go_wp2_with fail
       all_goals go_roundw
       case rel => exact⟨j+1,false,by omega,rfl,HA2,by go_num,B5⟩
       case measure => simp [intOf]; omega
    ·obtain rfl:j=nl:=by omega
     obtain rfl:am=true:=by have h1:=HAM.out; rw [← NL.out,List.take_length] at h1; rw [← h1]; exact decide_eq_true HIN.out
     replace SB:=hD (upQ SB.out HN2.out)
     replace EB:=hD (upQ EB.out HN2.out)
     replace TB:=hD (upQ TB.out HN2.out)
     replace H:=hD (H.out.later HN2.out)
     replace K:=hD (K.out.later HN2.out)
     replace B1:=hD (Chgs.later B1.out HN2.out)
     replace A2:=hD (Texts.later A2.out HN2.out)
     replace C0:=hD (cell_later C0.out HN2.out)
     replace C1:=hD (cell_later C1.out HN2.out)
     replace HB:=hD (below2Z HB.out HN2.out)
     replace HX:=hD (below2Z HX.out HN2.out)
     clear HAM HN2
     obtain⟨⟨SBc0,SBc1⟩,⟨SBf0,SBf1⟩⟩:=blk2 SB.out
     go_upto_region 18 with fail
     clear SBc0 SBc1 SBf0 SBf1
     go_cut [14,15] from 84 to 94 (fun p z wx => ∃ B,p=.pointer (some ⟨B,0,none⟩)∧z=.bool r1∧Hid (CellsAt wx B 0 [.int .i64 va,.int .i64 vb,.int .i64 vc,.string ⟨vs.toArray⟩])∧Hid (Below wr.heap.size wr wx))
     case first =>
      obtain⟨BS,hBS⟩ : ∃ BS:List (Nat × List Value),BS=[(w.heap.size,[x,y])]:=⟨_,rfl⟩
      have D0:=hD (show heldD wr BS b (off+k * 6) (.string ⟨zc.toArray⟩) from ⟨by rw [hBS]; exact heldB_cons (cellsAt_block SB.out) (heldB_nil _),C0.out⟩)
      have hq0:∀ X,heldD X BS b (off+k * 6) (.string ⟨zc.toArray⟩)→X.cell? ⟨w.heap.size,0,none⟩=some (x):=fun X hx => heldB_get (vs:=[x,y]) hx.1 (by rw [hBS]; simp) rfl
      have hq1:∀ X,heldD X BS b (off+k * 6) (.string ⟨zc.toArray⟩)→X.cell? ⟨w.heap.size,1,none⟩=some (y):=fun X hx => heldB_get (vs:=[x,y]) hx.1 (by rw [hBS]; simp) rfl
      have hqt:∀ X,heldD X BS b (off+k * 6) (.string ⟨zc.toArray⟩)→X.cell? ⟨b,off+k * 6,none⟩=some (.string ⟨zc.toArray⟩):=fun X hx => hx.2
      clear hBS
      have K0:Hid (Below wr.heap.size wr wr.drew):=hD (Below.refl _ _).drew
      refine wp_region_held_drew (S:=(fun X => heldD X BS b (off+k * 6) (.string ⟨zc.toArray⟩))) (by kernel_rfl) ?_ (fun hHeld => ?_)
      ·exact heldD_up K0.out D0.out
      generalize wr.drew=z0 at K0 hHeld ⊢
      refine wpAnyH_take (i:=0) (oi:=⟨some 85,.load 25 (.tmp 3),25,"law.go:84",#[],none⟩) (v:=?_) rfl (by as_aux_lemma => kernel_rfl) (by as_aux_lemma => kernel_rfl) (by as_aux_lemma => kernel_rfl) (fun _ _ _ h => h) (Or.inl ⟨by rfl,?_⟩) (by assumption) ?_
      rotate_left
      ·intro w' hSw
       try dsimp only at hSw
       go_simp
       try with_reducible rfl
      try simp only [Act.put,List.setIfInBounds_toArray,List.set_cons_zero,List.set_cons_succ]
      refine wpAnyH_take (i:=1) (oi:=⟨some 86,.move (.tmp 2),9,"law.go:84",#[],none⟩) (v:=?_) rfl (by as_aux_lemma => kernel_rfl) (by as_aux_lemma => kernel_rfl) (by as_aux_lemma => kernel_rfl) (fun _ _ _ h => h) (Or.inl ⟨by rfl,?_⟩) (by assumption) ?_
      rotate_left
      ·intro w' hSw
       try dsimp only at hSw
       go_simp
       try with_reducible rfl
      try simp only [Act.put,List.setIfInBounds_toArray,List.set_cons_zero,List.set_cons_succ]
      refine wpAnyH_take (i:=2) (oi:=⟨some 87,.move (.tmp 9),40,"law.go:84",#[],none⟩) (v:=?_) rfl (by as_aux_lemma => kernel_rfl) (by as_aux_lemma => kernel_rfl) (by as_aux_lemma => kernel_rfl) (fun _ _ _ h => h) (Or.inl ⟨by rfl,?_⟩) (by assumption) ?_
      rotate_left
      ·intro w' hSw
       try dsimp only at hSw
       go_simp
       try with_reducible rfl
      try simp only [Act.put,List.setIfInBounds_toArray,List.set_cons_zero,List.set_cons_succ]
      refine wpAnyH_take (i:=3) (oi:=⟨some 88,.move (.tmp 11),3,"law.go:84",#[],none⟩) (v:=?_) rfl (by as_aux_lemma => kernel_rfl) (by as_aux_lemma => kernel_rfl) (by as_aux_lemma => kernel_rfl) (fun _ _ _ h => h) (Or.inl ⟨by rfl,?_⟩) (by assumption) ?_
      rotate_left
      ·intro w' hSw
       try dsimp only at hSw
       go_simp
       try with_reducible rfl
      try simp only [Act.put,List.setIfInBounds_toArray,List.set_cons_zero,List.set_cons_succ]
      refine wpAnyH_take (i:=4) (oi:=⟨some 89,.indexAddr 40 (.tmp 87) (.tmp 88),0,"law.go:84",#[⟨2,.data⟩,⟨3,.data⟩],none⟩) (v:=?_) rfl (by as_aux_lemma => kernel_rfl) (by as_aux_lemma => kernel_rfl) (by as_aux_lemma => kernel_rfl) (fun _ _ _ h => h) (Or.inl ⟨by rfl,?_⟩) (by assumption) ?_
      rotate_left
      ·intro w' hSw
       try dsimp only at hSw
       go_simp
       try with_reducible rfl
      try simp only [Act.put,List.setIfInBounds_toArray,List.set_cons_zero,List.set_cons_succ]
      refine wpAnyH_take (i:=5) (oi:=⟨some 90,.fieldAddr 57 (.tmp 89) 0,0,"law.go:84",#[⟨4,.data⟩],none⟩) (v:=?_) rfl (by as_aux_lemma => kernel_rfl) (by as_aux_lemma => kernel_rfl) (by as_aux_lemma => kernel_rfl) (fun _ _ _ h => h) (Or.inl ⟨by rfl,?_⟩) (by assumption) ?_
      rotate_left
      ·intro w' hSw
       try dsimp only at hSw
       go_simp
       try with_reducible rfl
      try simp only [Act.put,List.setIfInBounds_toArray,List.set_cons_zero,List.set_cons_succ]
      refine wpAnyH_take (i:=6) (oi:=⟨some 91,.load 9 (.tmp 90),9,"law.go:84",#[⟨5,.data⟩],none⟩) (v:=?_) rfl (by as_aux_lemma => kernel_rfl) (by as_aux_lemma => kernel_rfl) (by as_aux_lemma => kernel_rfl) (fun _ _ _ h => h) (Or.inl ⟨by rfl,?_⟩) (by assumption) ?_
      rotate_left
      ·intro w' hSw
       try dsimp only at hSw
       go_simp
       try with_reducible rfl
      try simp only [Act.put,List.setIfInBounds_toArray,List.set_cons_zero,List.set_cons_succ]
      refine wpAnyH_ready (rs:=[7,11]) (by as_aux_lemma => kernel_rfl) (by simp) ?_
      refine AllReadyH.cons (o:=⟨some 92,.call { callee:=.value (.func 15),args:=#[.tmp 85,.tmp 86,.tmp 91],argTypes:=#[25,9,9] },31,"law.go:84",#[⟨0,.data⟩,⟨1,.data⟩,⟨6,.data⟩],none⟩) rfl (fun Kx hK => ?_) (AllReadyH.cons (o:=⟨some 14,.alloc 30,0,"law.go:84",#[],none⟩) rfl (fun Kx hK => ?_) (AllReadyH.nil))
      ·go_simp
       refine (vwvalue_any (H.out.later K0.out) HOK.out m zc HV1).mono ?_
       rintro e z18001 ⟨rfl,bz18001⟩
       have K18001:=hD (below2Z K0.out bz18001)
       have D18001:=hD (heldD_up K18001.out D0.out)
       clear bz18001
       go_wp2_with fail
       refine hK.out _ _ ?_ (fun hHeld2 => ?_)
       ·exact D18001.out
       clear hK Kx hHeld
       have hHeld:=hHeld2
       clear hHeld2
       try simp only [Act.put,List.setIfInBounds_toArray,List.set_cons_zero,List.set_cons_succ]
       refine wpAnyH_take (i:=8) (oi:=⟨some 84,.move (.tmp 92),31,"law.go:84",#[⟨7,.data⟩],none⟩) (v:=?_) rfl (by as_aux_lemma => kernel_rfl) (by as_aux_lemma => kernel_rfl) (by as_aux_lemma => kernel_rfl) (fun _ _ _ h => h) (Or.inl ⟨by rfl,?_⟩) (by assumption) ?_
       rotate_left
       ·intro w' hSw
        try dsimp only at hSw
        go_simp
        try with_reducible rfl
       try simp only [Act.put,List.setIfInBounds_toArray,List.set_cons_zero,List.set_cons_succ]
       refine wpAnyH_take (i:=9) (oi:=⟨some 93,.extract (.tmp 84) 0,30,"law.go:84",#[⟨8,.data⟩],none⟩) (v:=?_) rfl (by as_aux_lemma => kernel_rfl) (by as_aux_lemma => kernel_rfl) (by as_aux_lemma => kernel_rfl) (fun _ _ _ h => h) (Or.inl ⟨by rfl,?_⟩) (by assumption) ?_
       rotate_left
       ·intro w' hSw
        try dsimp only at hSw
        go_simp
        try with_reducible rfl
       try simp only [Act.put,List.setIfInBounds_toArray,List.set_cons_zero,List.set_cons_succ]
       refine wpAnyH_take (i:=10) (oi:=⟨some 94,.extract (.tmp 84) 1,4,"law.go:84",#[⟨8,.data⟩,⟨12,.gcOnly .lateStores⟩],none⟩) (v:=?_) rfl (by as_aux_lemma => kernel_rfl) (by as_aux_lemma => kernel_rfl) (by as_aux_lemma => kernel_rfl) (fun _ _ _ h => h) (Or.inl ⟨by rfl,?_⟩) (by assumption) ?_
       rotate_left
       ·intro w' hSw
        try dsimp only at hSw
        go_simp
        try with_reducible rfl
       try simp only [Act.put,List.setIfInBounds_toArray,List.set_cons_zero,List.set_cons_succ]
       refine wpAnyH_ready (rs:=[11]) (by as_aux_lemma => kernel_rfl) (by simp) ?_
       refine AllReadyH.cons (o:=⟨some 14,.alloc 30,0,"law.go:84",#[],none⟩) rfl (fun Kx hK => ?_) AllReadyH.nil
       go_simp
       refine hK.out _ _ ?_ (fun hHeld2 => ?_)
       ·exact heldD_up (below2Z K18001.out (bl_newZ _ _)) D0.out
       clear hK Kx hHeld
       have hHeld:=hHeld2
       clear hHeld2
       try simp only [Act.put,List.setIfInBounds_toArray,List.set_cons_zero,List.set_cons_succ]
       have bz18002:=bl_newZ z18001 (.cells #[.int .i64 0,.int .i64 0,.int .i64 0,.string ⟨#[]⟩] 30)
       have K18002:=hD (below2Z K18001.out bz18002)
       have D18002:=hD (heldD_up K18002.out D0.out)
       have nz18002:=hD ((MapKept.heap_alloc z18001 (.cells #[.int .i64 0,.int .i64 0,.int .i64 0,.string ⟨#[]⟩] 30)).1)
       have hB18002:wr.heap.size≤z18001.heap.size:=(K18001.out).size
       clear bz18002
       generalize z18001.alloc (.cells #[.int .i64 0,.int .i64 0,.int .i64 0,.string ⟨#[]⟩] 30)=z18002 at K18002 D18002 nz18002 hHeld ⊢
       generalize z18001.heap.size=B18002 at nz18002 hB18002  ⊢
       obtain⟨⟨r0,r1,r2,r3⟩,⟨g0,g1,g2,g3⟩⟩:=res4_cells (show Res4 z18002 B18002 from nz18002.out)
       refine wpAnyH_ready (rs:=[12]) (by as_aux_lemma => kernel_rfl) (by simp) ?_
       refine AllReadyH.cons (o:=⟨none,.store 30 (.tmp 14) (.tmp 93),0,"law.go:84",#[⟨11,.data⟩,⟨9,.data⟩,⟨7,.chain⟩,⟨0,.phase⟩,⟨1,.phase⟩,⟨2,.phase⟩,⟨3,.phase⟩,⟨4,.phase⟩,⟨5,.phase⟩,⟨6,.phase⟩,⟨7,.phase⟩,⟨8,.phase⟩,⟨9,.phase⟩,⟨10,.textOnly .lateStores⟩,⟨11,.phase⟩],none⟩) rfl (fun Kx hK => ?_) AllReadyH.nil
       go_simp
       clear r0 r1 r2 r3 g0 g1 g2 g3
       obtain⟨y0,y1,y2,y3⟩:=set4V (y0:=.int .i64 va) (y1:=.int .i64 vb) (y2:=.int .i64 vc) (y3:=.string ⟨vs.toArray⟩) nz18002.out
       have KE:=hD (((((K18002.out).setCell (p:=⟨B18002,0,none⟩) hB18002 (.int .i64 va)).setCell (p:=⟨B18002,1,none⟩) hB18002 (.int .i64 vb)).setCell (p:=⟨B18002,2,none⟩) hB18002 (.int .i64 vc)).setCell (p:=⟨B18002,3,none⟩) hB18002 (.string ⟨vs.toArray⟩))
       refine hK.out _ _ ?_ (fun hHeld2 => ?_)
       ·exact heldD_up KE.out D0.out
       clear hK Kx hHeld
       have hHeld:=hHeld2
       clear hHeld2
       refine wpAnyH_take (i:=13) (oi:=⟨some 15,.assign (.tmp 94),4,"law.go:84",#[⟨10,.data⟩,⟨12,.chain⟩,⟨0,.phase⟩,⟨1,.phase⟩,⟨2,.phase⟩,⟨3,.phase⟩,⟨4,.phase⟩,⟨5,.phase⟩,⟨6,.phase⟩,⟨7,.phase⟩,⟨8,.phase⟩,⟨9,.phase⟩,⟨10,.phase⟩,⟨11,.phase⟩,⟨12,.phase⟩],none⟩) (v:=?_) rfl (by as_aux_lemma => kernel_rfl) (by as_aux_lemma => kernel_rfl) (by as_aux_lemma => kernel_rfl) (fun _ _ _ h => h) (Or.inl ⟨by rfl,?_⟩) (by assumption) ?_
       rotate_left
       ·intro w' hSw
        try dsimp only at hSw
        go_simp
        try with_reducible rfl
       try simp only [Act.put,List.setIfInBounds_toArray,List.set_cons_zero,List.set_cons_succ]
       refine wpAnyH_done (by kernel_rfl) ?_ _
       go_wp2_with fail
       go_meet
       exact⟨B18002,rfl,rfl,hD (cellsAt_four y0 y1 y2 y3),KE⟩
      ·go_simp
       refine hK.out _ _ ?_ (fun hHeld2 => ?_)
       ·exact heldD_up (below2Z K0.out (bl_newZ _ _)) D0.out
       clear hK Kx hHeld
       have hHeld:=hHeld2
       clear hHeld2
       try simp only [Act.put,List.setIfInBounds_toArray,List.set_cons_zero,List.set_cons_succ]
       have bz18004:=bl_newZ z0 (.cells #[.int .i64 0,.int .i64 0,.int .i64 0,.string ⟨#[]⟩] 30)
       have K18004:=hD (below2Z K0.out bz18004)
       have D18004:=hD (heldD_up K18004.out D0.out)
       have nz18004:=hD ((MapKept.heap_alloc z0 (.cells #[.int .i64 0,.int .i64 0,.int .i64 0,.string ⟨#[]⟩] 30)).1)
       have hB18004:wr.heap.size≤z0.heap.size:=(K0.out).size
       clear bz18004
       generalize z0.alloc (.cells #[.int .i64 0,.int .i64 0,.int .i64 0,.string ⟨#[]⟩] 30)=z18004 at K18004 D18004 nz18004 hHeld ⊢
       generalize z0.heap.size=B18004 at nz18004 hB18004  ⊢
       refine wpAnyH_ready (rs:=[7]) (by as_aux_lemma => kernel_rfl) (by simp) ?_
       refine AllReadyH.cons (o:=⟨some 92,.call { callee:=.value (.func 15),args:=#[.tmp 85,.tmp 86,.tmp 91],argTypes:=#[25,9,9] },31,"law.go:84",#[⟨0,.data⟩,⟨1,.data⟩,⟨6,.data⟩],none⟩) rfl (fun Kx hK => ?_) AllReadyH.nil
       go_simp
       refine (vwvalue_any (H.out.later K18004.out) HOK.out m zc HV1).mono ?_
       rintro e z18005 ⟨rfl,bz18005⟩
       have K18005:=hD (below2Z K18004.out bz18005)
       have D18005:=hD (heldD_up K18005.out D0.out)
       replace nz18004:=hD (((bz18005).block _ (Array.getElem?_eq_some_iff.1 (nz18004.out)).1).trans (nz18004.out))
       clear bz18005
       go_wp2_with fail
       refine hK.out _ _ ?_ (fun hHeld2 => ?_)
       ·exact D18005.out
       clear hK Kx hHeld
       have hHeld:=hHeld2
       clear hHeld2
       try simp only [Act.put,List.setIfInBounds_toArray,List.set_cons_zero,List.set_cons_succ]
       refine wpAnyH_take (i:=8) (oi:=⟨some 84,.move (.tmp 92),31,"law.go:84",#[⟨7,.data⟩],none⟩) (v:=?_) rfl (by as_aux_lemma => kernel_rfl) (by as_aux_lemma => kernel_rfl) (by as_aux_lemma => kernel_rfl) (fun _ _ _ h => h) (Or.inl ⟨by rfl,?_⟩) (by assumption) ?_
       rotate_left
       ·intro w' hSw
        try dsimp only at hSw
        go_simp
        try with_reducible rfl
       try simp only [Act.put,List.setIfInBounds_toArray,List.set_cons_zero,List.set_cons_succ]
       refine wpAnyH_take (i:=9) (oi:=⟨some 93,.extract (.tmp 84) 0,30,"law.go:84",#[⟨8,.data⟩],none⟩) (v:=?_) rfl (by as_aux_lemma => kernel_rfl) (by as_aux_lemma => kernel_rfl) (by as_aux_lemma => kernel_rfl) (fun _ _ _ h => h) (Or.inl ⟨by rfl,?_⟩) (by assumption) ?_
       rotate_left
       ·intro w' hSw
        try dsimp only at hSw
        go_simp
        try with_reducible rfl
       try simp only [Act.put,List.setIfInBounds_toArray,List.set_cons_zero,List.set_cons_succ]
       refine wpAnyH_take (i:=10) (oi:=⟨some 94,.extract (.tmp 84) 1,4,"law.go:84",#[⟨8,.data⟩,⟨12,.gcOnly .lateStores⟩],none⟩) (v:=?_) rfl (by as_aux_lemma => kernel_rfl) (by as_aux_lemma => kernel_rfl) (by as_aux_lemma => kernel_rfl) (fun _ _ _ h => h) (Or.inl ⟨by rfl,?_⟩) (by assumption) ?_
       rotate_left
       ·intro w' hSw
        try dsimp only at hSw
        go_simp
        try with_reducible rfl
       try simp only [Act.put,List.setIfInBounds_toArray,List.set_cons_zero,List.set_cons_succ]
       obtain⟨⟨r0,r1,r2,r3⟩,⟨g0,g1,g2,g3⟩⟩:=res4_cells (show Res4 z18005 B18004 from nz18004.out)
       refine wpAnyH_ready (rs:=[12]) (by as_aux_lemma => kernel_rfl) (by simp) ?_
       refine AllReadyH.cons (o:=⟨none,.store 30 (.tmp 14) (.tmp 93),0,"law.go:84",#[⟨11,.data⟩,⟨9,.data⟩,⟨7,.chain⟩,⟨0,.phase⟩,⟨1,.phase⟩,⟨2,.phase⟩,⟨3,.phase⟩,⟨4,.phase⟩,⟨5,.phase⟩,⟨6,.phase⟩,⟨7,.phase⟩,⟨8,.phase⟩,⟨9,.phase⟩,⟨10,.textOnly .lateStores⟩,⟨11,.phase⟩],none⟩) rfl (fun Kx hK => ?_) AllReadyH.nil
       go_simp
       clear r0 r1 r2 r3 g0 g1 g2 g3
       obtain⟨y0,y1,y2,y3⟩:=set4V (y0:=.int .i64 va) (y1:=.int .i64 vb) (y2:=.int .i64 vc) (y3:=.string ⟨vs.toArray⟩) nz18004.out
       have KE:=hD (((((K18005.out).setCell (p:=⟨B18004,0,none⟩) hB18004 (.int .i64 va)).setCell (p:=⟨B18004,1,none⟩) hB18004 (.int .i64 vb)).setCell (p:=⟨B18004,2,none⟩) hB18004 (.int .i64 vc)).setCell (p:=⟨B18004,3,none⟩) hB18004 (.string ⟨vs.toArray⟩))
       refine hK.out _ _ ?_ (fun hHeld2 => ?_)
       ·exact heldD_up KE.out D0.out
       clear hK Kx hHeld
       have hHeld:=hHeld2
       clear hHeld2
       refine wpAnyH_take (i:=13) (oi:=⟨some 15,.assign (.tmp 94),4,"law.go:84",#[⟨10,.data⟩,⟨12,.chain⟩,⟨0,.phase⟩,⟨1,.phase⟩,⟨2,.phase⟩,⟨3,.phase⟩,⟨4,.phase⟩,⟨5,.phase⟩,⟨6,.phase⟩,⟨7,.phase⟩,⟨8,.phase⟩,⟨9,.phase⟩,⟨10,.phase⟩,⟨11,.phase⟩,⟨12,.phase⟩],none⟩) (v:=?_) rfl (by as_aux_lemma => kernel_rfl) (by as_aux_lemma => kernel_rfl) (by as_aux_lemma => kernel_rfl) (fun _ _ _ h => h) (Or.inl ⟨by rfl,?_⟩) (by assumption) ?_
       rotate_left
       ·intro w' hSw
        try dsimp only at hSw
        go_simp
        try with_reducible rfl
       try simp only [Act.put,List.setIfInBounds_toArray,List.set_cons_zero,List.set_cons_succ]
       refine wpAnyH_done (by kernel_rfl) ?_ _
       go_wp2_with fail
       go_meet
       exact⟨B18004,rfl,rfl,hD (cellsAt_four y0 y1 y2 y3),KE⟩
     case rest =>
      obtain⟨BKV,rfl,rfl,KV,KB11⟩:=hcut
      obtain⟨w11,hw11⟩ : ∃ X,X=wc:=⟨_,rfl⟩
      subst hw11
      replace SB:=hD (upQ SB.out KB11.out)
      replace EB:=hD (upQ EB.out KB11.out)
      replace TB:=hD (upQ TB.out KB11.out)
      replace H:=hD (H.out.later KB11.out)
      replace K:=hD (K.out.later KB11.out)
      replace B1:=hD (Chgs.later B1.out KB11.out)
      replace A2:=hD (Texts.later A2.out KB11.out)
      replace C0:=hD (cell_later C0.out KB11.out)
      replace C1:=hD (cell_later C1.out KB11.out)
      replace HB:=hD (below2Z HB.out KB11.out)
      replace HX:=hD (below2Z HX.out KB11.out)
      clear KB11
      obtain⟨⟨TBc0,TBc1⟩,⟨TBf0,TBf1⟩⟩:=blk2 TB.out
      go_upto_region 19 with fail
      clear TBc0 TBc1 TBf0 TBf1
      go_cut [16,17] from 95 to 105 (fun p z wx => ∃ B,p=.pointer (some ⟨B,0,none⟩)∧z=.bool r2∧Hid (CellsAt wx B 0 [.int .i64 ya,.int .i64 yb,.int .i64 yc,.string ⟨ys.toArray⟩])∧Hid (Below w11.heap.size w11 wx))
      case first =>
       obtain⟨BS,hBS⟩ : ∃ BS:List (Nat × List Value),BS=[(w6.heap.size,[.slice pa t.e.length pc,.slice qa t.s.length qc])]:=⟨_,rfl⟩
       have D0:=hD (show heldD w11 BS b (off+k * 6) (.string ⟨zc.toArray⟩) from ⟨by rw [hBS]; exact heldB_cons (cellsAt_block TB.out) (heldB_nil _),C0.out⟩)
       have hq0:∀ X,heldD X BS b (off+k * 6) (.string ⟨zc.toArray⟩)→X.cell? ⟨w6.heap.size,0,none⟩=some (.slice pa t.e.length pc):=fun X hx => heldB_get (vs:=[.slice pa t.e.length pc,.slice qa t.s.length qc]) hx.1 (by rw [hBS]; simp) rfl
       have hq1:∀ X,heldD X BS b (off+k * 6) (.string ⟨zc.toArray⟩)→X.cell? ⟨w6.heap.size,1,none⟩=some (.slice qa t.s.length qc):=fun X hx => heldB_get (vs:=[.slice pa t.e.length pc,.slice qa t.s.length qc]) hx.1 (by rw [hBS]; simp) rfl
       have hqt:∀ X,heldD X BS b (off+k * 6) (.string ⟨zc.toArray⟩)→X.cell? ⟨b,off+k * 6,none⟩=some (.string ⟨zc.toArray⟩):=fun X hx => hx.2
       clear hBS
       have K0:Hid (Below w11.heap.size w11 w11.drew):=hD (Below.refl _ _).drew
       refine wp_region_held_drew (S:=(fun X => heldD X BS b (off+k * 6) (.string ⟨zc.toArray⟩))) (by kernel_rfl) ?_ (fun hHeld => ?_)
       ·exact heldD_up K0.out D0.out
       generalize w11.drew=z0 at K0 hHeld ⊢
       refine wpAnyH_take (i:=0) (oi:=⟨some 96,.load 25 (.tmp 7),25,"law.go:85",#[],none⟩) (v:=?_) rfl (by as_aux_lemma => kernel_rfl) (by as_aux_lemma => kernel_rfl) (by as_aux_lemma => kernel_rfl) (fun _ _ _ h => h) (Or.inl ⟨by rfl,?_⟩) (by assumption) ?_
       rotate_left
       ·intro w' hSw
        try dsimp only at hSw
        go_simp
        try with_reducible rfl
       try simp only [Act.put,List.setIfInBounds_toArray,List.set_cons_zero,List.set_cons_succ]
       refine wpAnyH_take (i:=1) (oi:=⟨some 97,.move (.tmp 2),9,"law.go:85",#[],none⟩) (v:=?_) rfl (by as_aux_lemma => kernel_rfl) (by as_aux_lemma => kernel_rfl) (by as_aux_lemma => kernel_rfl) (fun _ _ _ h => h) (Or.inl ⟨by rfl,?_⟩) (by assumption) ?_
       rotate_left
       ·intro w' hSw
        try dsimp only at hSw
        go_simp
        try with_reducible rfl
       try simp only [Act.put,List.setIfInBounds_toArray,List.set_cons_zero,List.set_cons_succ]
       refine wpAnyH_take (i:=2) (oi:=⟨some 98,.move (.tmp 9),40,"law.go:85",#[],none⟩) (v:=?_) rfl (by as_aux_lemma => kernel_rfl) (by as_aux_lemma => kernel_rfl) (by as_aux_lemma => kernel_rfl) (fun _ _ _ h => h) (Or.inl ⟨by rfl,?_⟩) (by assumption) ?_
       rotate_left
       ·intro w' hSw
        try dsimp only at hSw
        go_simp
        try with_reducible rfl
       try simp only [Act.put,List.setIfInBounds_toArray,List.set_cons_zero,List.set_cons_succ]
       refine wpAnyH_take (i:=3) (oi:=⟨some 99,.move (.tmp 11),3,"law.go:85",#[],none⟩) (v:=?_) rfl (by as_aux_lemma => kernel_rfl) (by as_aux_lemma => kernel_rfl) (by as_aux_lemma => kernel_rfl) (fun _ _ _ h => h) (Or.inl ⟨by rfl,?_⟩) (by assumption) ?_
       rotate_left
       ·intro w' hSw
        try dsimp only at hSw
        go_simp
        try with_reducible rfl
       try simp only [Act.put,List.setIfInBounds_toArray,List.set_cons_zero,List.set_cons_succ]
       refine wpAnyH_take (i:=4) (oi:=⟨some 100,.indexAddr 40 (.tmp 98) (.tmp 99),0,"law.go:85",#[⟨2,.data⟩,⟨3,.data⟩],none⟩) (v:=?_) rfl (by as_aux_lemma => kernel_rfl) (by as_aux_lemma => kernel_rfl) (by as_aux_lemma => kernel_rfl) (fun _ _ _ h => h) (Or.inl ⟨by rfl,?_⟩) (by assumption) ?_
       rotate_left
       ·intro w' hSw
        try dsimp only at hSw
        go_simp
        try with_reducible rfl
       try simp only [Act.put,List.setIfInBounds_toArray,List.set_cons_zero,List.set_cons_succ]
       refine wpAnyH_take (i:=5) (oi:=⟨some 101,.fieldAddr 57 (.tmp 100) 0,0,"law.go:85",#[⟨4,.data⟩],none⟩) (v:=?_) rfl (by as_aux_lemma => kernel_rfl) (by as_aux_lemma => kernel_rfl) (by as_aux_lemma => kernel_rfl) (fun _ _ _ h => h) (Or.inl ⟨by rfl,?_⟩) (by assumption) ?_
       rotate_left
       ·intro w' hSw
        try dsimp only at hSw
        go_simp
        try with_reducible rfl
       try simp only [Act.put,List.setIfInBounds_toArray,List.set_cons_zero,List.set_cons_succ]
       refine wpAnyH_take (i:=6) (oi:=⟨some 102,.load 9 (.tmp 101),9,"law.go:85",#[⟨5,.data⟩],none⟩) (v:=?_) rfl (by as_aux_lemma => kernel_rfl) (by as_aux_lemma => kernel_rfl) (by as_aux_lemma => kernel_rfl) (fun _ _ _ h => h) (Or.inl ⟨by rfl,?_⟩) (by assumption) ?_
       rotate_left
       ·intro w' hSw
        try dsimp only at hSw
        go_simp
        try with_reducible rfl
       try simp only [Act.put,List.setIfInBounds_toArray,List.set_cons_zero,List.set_cons_succ]
       refine wpAnyH_ready (rs:=[7,11]) (by as_aux_lemma => kernel_rfl) (by simp) ?_
       refine AllReadyH.cons (o:=⟨some 103,.call { callee:=.value (.func 15),args:=#[.tmp 96,.tmp 97,.tmp 102],argTypes:=#[25,9,9] },31,"law.go:85",#[⟨0,.data⟩,⟨1,.data⟩,⟨6,.data⟩],none⟩) rfl (fun Kx hK => ?_) (AllReadyH.cons (o:=⟨some 16,.alloc 30,0,"law.go:85",#[],none⟩) rfl (fun Kx hK => ?_) (AllReadyH.nil))
       ·go_simp
        refine (vwvalue_any (K.out.later K0.out) KOK.out m zc HV2).mono ?_
        rintro e z19001 ⟨rfl,bz19001⟩
        have K19001:=hD (below2Z K0.out bz19001)
        have D19001:=hD (heldD_up K19001.out D0.out)
        clear bz19001
        go_wp2_with fail
        refine hK.out _ _ ?_ (fun hHeld2 => ?_)
        ·exact D19001.out
        clear hK Kx hHeld
        have hHeld:=hHeld2
        clear hHeld2
        try simp only [Act.put,List.setIfInBounds_toArray,List.set_cons_zero,List.set_cons_succ]
        refine wpAnyH_take (i:=8) (oi:=⟨some 95,.move (.tmp 103),31,"law.go:85",#[⟨7,.data⟩],none⟩) (v:=?_) rfl (by as_aux_lemma => kernel_rfl) (by as_aux_lemma => kernel_rfl) (by as_aux_lemma => kernel_rfl) (fun _ _ _ h => h) (Or.inl ⟨by rfl,?_⟩) (by assumption) ?_
        rotate_left
        ·intro w' hSw
         try dsimp only at hSw
         go_simp
         try with_reducible rfl
        try simp only [Act.put,List.setIfInBounds_toArray,List.set_cons_zero,List.set_cons_succ]
        refine wpAnyH_take (i:=9) (oi:=⟨some 104,.extract (.tmp 95) 0,30,"law.go:85",#[⟨8,.data⟩],none⟩) (v:=?_) rfl (by as_aux_lemma => kernel_rfl) (by as_aux_lemma => kernel_rfl) (by as_aux_lemma => kernel_rfl) (fun _ _ _ h => h) (Or.inl ⟨by rfl,?_⟩) (by assumption) ?_
        rotate_left
        ·intro w' hSw
         try dsimp only at hSw
         go_simp
         try with_reducible rfl
        try simp only [Act.put,List.setIfInBounds_toArray,List.set_cons_zero,List.set_cons_succ]
        refine wpAnyH_take (i:=10) (oi:=⟨some 105,.extract (.tmp 95) 1,4,"law.go:85",#[⟨8,.data⟩,⟨12,.gcOnly .lateStores⟩],none⟩) (v:=?_) rfl (by as_aux_lemma => kernel_rfl) (by as_aux_lemma => kernel_rfl) (by as_aux_lemma => kernel_rfl) (fun _ _ _ h => h) (Or.inl ⟨by rfl,?_⟩) (by assumption) ?_
        rotate_left
        ·intro w' hSw
         try dsimp only at hSw
         go_simp
         try with_reducible rfl
        try simp only [Act.put,List.setIfInBounds_toArray,List.set_cons_zero,List.set_cons_succ]
        refine wpAnyH_ready (rs:=[11]) (by as_aux_lemma => kernel_rfl) (by simp) ?_
        refine AllReadyH.cons (o:=⟨some 16,.alloc 30,0,"law.go:85",#[],none⟩) rfl (fun Kx hK => ?_) AllReadyH.nil
        go_simp
        refine hK.out _ _ ?_ (fun hHeld2 => ?_)
        ·exact heldD_up (below2Z K19001.out (bl_newZ _ _)) D0.out
        clear hK Kx hHeld
        have hHeld:=hHeld2
        clear hHeld2
        try simp only [Act.put,List.setIfInBounds_toArray,List.set_cons_zero,List.set_cons_succ]
        have bz19002:=bl_newZ z19001 (.cells #[.int .i64 0,.int .i64 0,.int .i64 0,.string ⟨#[]⟩] 30)
        have K19002:=hD (below2Z K19001.out bz19002)
        have D19002:=hD (heldD_up K19002.out D0.out)
        have nz19002:=hD ((MapKept.heap_alloc z19001 (.cells #[.int .i64 0,.int .i64 0,.int .i64 0,.string ⟨#[]⟩] 30)).1)
        have hB19002:w11.heap.size≤z19001.heap.size:=(K19001.out).size
        clear bz19002
        generalize z19001.alloc (.cells #[.int .i64 0,.int .i64 0,.int .i64 0,.string ⟨#[]⟩] 30)=z19002 at K19002 D19002 nz19002 hHeld ⊢
        generalize z19001.heap.size=B19002 at nz19002 hB19002  ⊢
        obtain⟨⟨r0,r1,r2,r3⟩,⟨g0,g1,g2,g3⟩⟩:=res4_cells (show Res4 z19002 B19002 from nz19002.out)
        refine wpAnyH_ready (rs:=[12]) (by as_aux_lemma => kernel_rfl) (by simp) ?_
        refine AllReadyH.cons (o:=⟨none,.store 30 (.tmp 16) (.tmp 104),0,"law.go:85",#[⟨11,.data⟩,⟨9,.data⟩,⟨7,.chain⟩,⟨0,.phase⟩,⟨1,.phase⟩,⟨2,.phase⟩,⟨3,.phase⟩,⟨4,.phase⟩,⟨5,.phase⟩,⟨6,.phase⟩,⟨7,.phase⟩,⟨8,.phase⟩,⟨9,.phase⟩,⟨10,.textOnly .lateStores⟩,⟨11,.phase⟩],none⟩) rfl (fun Kx hK => ?_) AllReadyH.nil
        go_simp
        clear r0 r1 r2 r3 g0 g1 g2 g3
        obtain⟨y0,y1,y2,y3⟩:=set4V (y0:=.int .i64 ya) (y1:=.int .i64 yb) (y2:=.int .i64 yc) (y3:=.string ⟨ys.toArray⟩) nz19002.out
        have KE:=hD (((((K19002.out).setCell (p:=⟨B19002,0,none⟩) hB19002 (.int .i64 ya)).setCell (p:=⟨B19002,1,none⟩) hB19002 (.int .i64 yb)).setCell (p:=⟨B19002,2,none⟩) hB19002 (.int .i64 yc)).setCell (p:=⟨B19002,3,none⟩) hB19002 (.string ⟨ys.toArray⟩))
        refine hK.out _ _ ?_ (fun hHeld2 => ?_)
        ·exact heldD_up KE.out D0.out
        clear hK Kx hHeld
        have hHeld:=hHeld2
        clear hHeld2
        refine wpAnyH_take (i:=13) (oi:=⟨some 17,.assign (.tmp 105),4,"law.go:85",#[⟨10,.data⟩,⟨12,.chain⟩,⟨0,.phase⟩,⟨1,.phase⟩,⟨2,.phase⟩,⟨3,.phase⟩,⟨4,.phase⟩,⟨5,.phase⟩,⟨6,.phase⟩,⟨7,.phase⟩,⟨8,.phase⟩,⟨9,.phase⟩,⟨10,.phase⟩,⟨11,.phase⟩,⟨12,.phase⟩],none⟩) (v:=?_) rfl (by as_aux_lemma => kernel_rfl) (by as_aux_lemma => kernel_rfl) (by as_aux_lemma => kernel_rfl) (fun _ _ _ h => h) (Or.inl ⟨by rfl,?_⟩) (by assumption) ?_
        rotate_left
        ·intro w' hSw
         try dsimp only at hSw
         go_simp
         try with_reducible rfl
        try simp only [Act.put,List.setIfInBounds_toArray,List.set_cons_zero,List.set_cons_succ]
        refine wpAnyH_done (by kernel_rfl) ?_ _
        go_wp2_with fail
        go_meet
        exact⟨B19002,rfl,rfl,hD (cellsAt_four y0 y1 y2 y3),KE⟩
       ·go_simp
        refine hK.out _ _ ?_ (fun hHeld2 => ?_)
        ·exact heldD_up (below2Z K0.out (bl_newZ _ _)) D0.out
        clear hK Kx hHeld
        have hHeld:=hHeld2
        clear hHeld2
        try simp only [Act.put,List.setIfInBounds_toArray,List.set_cons_zero,List.set_cons_succ]
        have bz19004:=bl_newZ z0 (.cells #[.int .i64 0,.int .i64 0,.int .i64 0,.string ⟨#[]⟩] 30)
        have K19004:=hD (below2Z K0.out bz19004)
        have D19004:=hD (heldD_up K19004.out D0.out)
        have nz19004:=hD ((MapKept.heap_alloc z0 (.cells #[.int .i64 0,.int .i64 0,.int .i64 0,.string ⟨#[]⟩] 30)).1)
        have hB19004:w11.heap.size≤z0.heap.size:=(K0.out).size
        clear bz19004
        generalize z0.alloc (.cells #[.int .i64 0,.int .i64 0,.int .i64 0,.string ⟨#[]⟩] 30)=z19004 at K19004 D19004 nz19004 hHeld ⊢
        generalize z0.heap.size=B19004 at nz19004 hB19004  ⊢
        refine wpAnyH_ready (rs:=[7]) (by as_aux_lemma => kernel_rfl) (by simp) ?_
        refine AllReadyH.cons (o:=⟨some 103,.call { callee:=.value (.func 15),args:=#[.tmp 96,.tmp 97,.tmp 102],argTypes:=#[25,9,9] },31,"law.go:85",#[⟨0,.data⟩,⟨1,.data⟩,⟨6,.data⟩],none⟩) rfl (fun Kx hK => ?_) AllReadyH.nil
        go_simp
        refine (vwvalue_any (K.out.later K19004.out) KOK.out m zc HV2).mono ?_
        rintro e z19005 ⟨rfl,bz19005⟩
        have K19005:=hD (below2Z K19004.out bz19005)
        have D19005:=hD (heldD_up K19005.out D0.out)
        replace nz19004:=hD (((bz19005).block _ (Array.getElem?_eq_some_iff.1 (nz19004.out)).1).trans (nz19004.out))
        clear bz19005
        go_wp2_with fail
        refine hK.out _ _ ?_ (fun hHeld2 => ?_)
        ·exact D19005.out
        clear hK Kx hHeld
        have hHeld:=hHeld2
        clear hHeld2
        try simp only [Act.put,List.setIfInBounds_toArray,List.set_cons_zero,List.set_cons_succ]
        refine wpAnyH_take (i:=8) (oi:=⟨some 95,.move (.tmp 103),31,"law.go:85",#[⟨7,.data⟩],none⟩) (v:=?_) rfl (by as_aux_lemma => kernel_rfl) (by as_aux_lemma => kernel_rfl) (by as_aux_lemma => kernel_rfl) (fun _ _ _ h => h) (Or.inl ⟨by rfl,?_⟩) (by assumption) ?_
        rotate_left
        ·intro w' hSw
         try dsimp only at hSw
         go_simp
         try with_reducible rfl
        try simp only [Act.put,List.setIfInBounds_toArray,List.set_cons_zero,List.set_cons_succ]
        refine wpAnyH_take (i:=9) (oi:=⟨some 104,.extract (.tmp 95) 0,30,"law.go:85",#[⟨8,.data⟩],none⟩) (v:=?_) rfl (by as_aux_lemma => kernel_rfl) (by as_aux_lemma => kernel_rfl) (by as_aux_lemma => kernel_rfl) (fun _ _ _ h => h) (Or.inl ⟨by rfl,?_⟩) (by assumption) ?_
        rotate_left
        ·intro w' hSw
         try dsimp only at hSw
         go_simp
         try with_reducible rfl
        try simp only [Act.put,List.setIfInBounds_toArray,List.set_cons_zero,List.set_cons_succ]
        refine wpAnyH_take (i:=10) (oi:=⟨some 105,.extract (.tmp 95) 1,4,"law.go:85",#[⟨8,.data⟩,⟨12,.gcOnly .lateStores⟩],none⟩) (v:=?_) rfl (by as_aux_lemma => kernel_rfl) (by as_aux_lemma => kernel_rfl) (by as_aux_lemma => kernel_rfl) (fun _ _ _ h => h) (Or.inl ⟨by rfl,?_⟩) (by assumption) ?_
        rotate_left
        ·intro w' hSw
         try dsimp only at hSw
         go_simp
         try with_reducible rfl
        try simp only [Act.put,List.setIfInBounds_toArray,List.set_cons_zero,List.set_cons_succ]
        obtain⟨⟨r0,r1,r2,r3⟩,⟨g0,g1,g2,g3⟩⟩:=res4_cells (show Res4 z19005 B19004 from nz19004.out)
        refine wpAnyH_ready (rs:=[12]) (by as_aux_lemma => kernel_rfl) (by simp) ?_
        refine AllReadyH.cons (o:=⟨none,.store 30 (.tmp 16) (.tmp 104),0,"law.go:85",#[⟨11,.data⟩,⟨9,.data⟩,⟨7,.chain⟩,⟨0,.phase⟩,⟨1,.phase⟩,⟨2,.phase⟩,⟨3,.phase⟩,⟨4,.phase⟩,⟨5,.phase⟩,⟨6,.phase⟩,⟨7,.phase⟩,⟨8,.phase⟩,⟨9,.phase⟩,⟨10,.textOnly .lateStores⟩,⟨11,.phase⟩],none⟩) rfl (fun Kx hK => ?_) AllReadyH.nil
        go_simp
        clear r0 r1 r2 r3 g0 g1 g2 g3
        obtain⟨y0,y1,y2,y3⟩:=set4V (y0:=.int .i64 ya) (y1:=.int .i64 yb) (y2:=.int .i64 yc) (y3:=.string ⟨ys.toArray⟩) nz19004.out
        have KE:=hD (((((K19005.out).setCell (p:=⟨B19004,0,none⟩) hB19004 (.int .i64 ya)).setCell (p:=⟨B19004,1,none⟩) hB19004 (.int .i64 yb)).setCell (p:=⟨B19004,2,none⟩) hB19004 (.int .i64 yc)).setCell (p:=⟨B19004,3,none⟩) hB19004 (.string ⟨ys.toArray⟩))
        refine hK.out _ _ ?_ (fun hHeld2 => ?_)
        ·exact heldD_up KE.out D0.out
        clear hK Kx hHeld
        have hHeld:=hHeld2
        clear hHeld2
        refine wpAnyH_take (i:=13) (oi:=⟨some 17,.assign (.tmp 105),4,"law.go:85",#[⟨10,.data⟩,⟨12,.chain⟩,⟨0,.phase⟩,⟨1,.phase⟩,⟨2,.phase⟩,⟨3,.phase⟩,⟨4,.phase⟩,⟨5,.phase⟩,⟨6,.phase⟩,⟨7,.phase⟩,⟨8,.phase⟩,⟨9,.phase⟩,⟨10,.phase⟩,⟨11,.phase⟩,⟨12,.phase⟩],none⟩) (v:=?_) rfl (by as_aux_lemma => kernel_rfl) (by as_aux_lemma => kernel_rfl) (by as_aux_lemma => kernel_rfl) (fun _ _ _ h => h) (Or.inl ⟨by rfl,?_⟩) (by assumption) ?_
        rotate_left
        ·intro w' hSw
         try dsimp only at hSw
         go_simp
         try with_reducible rfl
        try simp only [Act.put,List.setIfInBounds_toArray,List.set_cons_zero,List.set_cons_succ]
        refine wpAnyH_done (by kernel_rfl) ?_ _
        go_wp2_with fail
        go_meet
        exact⟨B19004,rfl,rfl,hD (cellsAt_four y0 y1 y2 y3),KE⟩
      case rest =>
       obtain⟨BKW,rfl,rfl,KW,KB12⟩:=hcut
       obtain⟨w12,hw12⟩ : ∃ X,X=wc:=⟨_,rfl⟩
       subst hw12
       replace SB:=hD (upQ SB.out KB12.out)
       replace EB:=hD (upQ EB.out KB12.out)
       replace TB:=hD (upQ TB.out KB12.out)
       replace H:=hD (H.out.later KB12.out)
       replace K:=hD (K.out.later KB12.out)
       replace B1:=hD (Chgs.later B1.out KB12.out)
       replace A2:=hD (Texts.later A2.out KB12.out)
       replace C0:=hD (cell_later C0.out KB12.out)
       replace C1:=hD (cell_later C1.out KB12.out)
       replace KV:=hD (CellsAt.later KV.out KB12.out)
       replace HB:=hD (below2Z HB.out KB12.out)
       replace HX:=hD (below2Z HX.out KB12.out)
       clear KB12
       have c1:=C1.out
       have e5:=bool_neq r2
       cases r1 <;> cases r2 <;> first | (exfalso; revert hor; decide) | skip
       all_goals clear hor
       all_goals go_wp2_with fail
       all_goals go_roundw
       all_goals first | exact⟨k+1,by omega,by go_num,HX⟩ | (simp [intOf]; omega)
  ·obtain rfl:k=nb:=by omega
   have t9:decide ((k:Int)≤1)=true:=decide_eq_true (by omega)
   replace HB:=hD (below2Z HB.out HN.out)
   go_wp2_with fail
   refine (live15 _).mono ?_
   rintro e w13 ⟨rfl,b13⟩
   replace HB:=hD (below2Z HB.out b13)
   clear b13
   go_wp2_with fail
   go_ret
   exact⟨rfl,HB.out⟩

theorem walkViewTouches {w:World} {x y:Value} {s:Sta} (h:StAt w x y s) (_:∀ r ∈ s.s,SesFit r) (e:Ev) (_:evFit e) (m:List UInt8) (_:m.length≤maxLen) :
  Calls Tryz.prog 5 #[.agg #[x,y],.agg #[.int .i64 e.k,.string ⟨e.u.toArray⟩,.string ⟨e.o.toArray⟩,.int .i64 e.id,.int .i64 e.v.sh,.int .i64 e.v.pr,.int .i64 e.v.si,.string ⟨e.v.st.toArray⟩],.string ⟨m.toArray⟩] w fun z w' => z=.returned (.bool true)∧Below w.heap.size w w':=by
 obtain⟨kk,u,c,id,⟨ea,eb,ed,es⟩⟩:=e
 cases f1:fewSta s with
 | false => exact vto_1 h kk u c es id ea eb ed m f1
 | true =>
 cases f2:stMay s with
 | false => exact vto_2 h kk u c es id ea eb ed m f1 f2
 | true =>
 cases f3:shortEv ⟨kk,u,c,id,⟨ea,eb,ed,es⟩⟩ with
 | false => exact vto_3 h kk u c es id ea eb ed m f1 f2 f3
 | true =>
 by_cases k3:m.length≤40
 case neg => exact vto_4 h kk u c es id ea eb ed m f1 f2 f3 k3
 obtain⟨⟨t,n⟩,hap⟩ : ∃ p,stApply s ⟨kk,u,c,id,⟨ea,eb,ed,es⟩⟩=p:=⟨_,rfl⟩
 cases n with
 | succ n => exact vto_5 h kk u c es id ea eb ed m f1 f2 f3 k3 hap (Nat.succ_pos n)
 | zero => exact vto_6 h kk u c es id ea eb ed m f1 f2 f3 k3 hap

end Go.Proofs.YtphfinlfabklmaaGreat

end

section

namespace Go.Proofs.YtphfinlfabklmaaGreat.viewTouches
open Go.ChangeShapes Go.WideShapes Go.ChangeAt Go.RowKit
open Go.ChangeMaps (open_string shut_string)
set_option linter.unusedVariables false

theorem own:ownKnob Tryz.prog.godebug=none:=by kernel_rfl
theorem laidOut:laidOutB Tryz.prog=true:=by kernel_rfl

theorem lifted (os:Os) (started:os.Started) (H:Type) (enc:TypeId × Value→H) :
  ReturnsInHanded {} Tryz.checked os 5 .any (Rows.viewTouchesSpec.pre6 enc Tryz.prog Tryz.f5 Rows.viewTouchesRow.domain false) (Rows.viewTouchesSpec.post enc Tryz.prog Tryz.f5 false true false false):=by
 refine returnsInHanded_of_change (C:=Tryz.checked) own started (by kernel_rfl) Tryz.func5
  (ChangeSpec.witness6 (enc:=enc) (C:=Tryz.checked) false ⟨#[],#[.agg #[.slice none 0 0,.slice none 0 0],.agg #[.int .i64 0,.string ByteArray.empty,.string ByteArray.empty,.int .i64 0,.int .i64 0,.int .i64 0,.int .i64 0,.string ByteArray.empty],.string ByteArray.empty],[]⟩ 8 (by kernel_rfl) (by kernel_rfl) (by kernel_rfl) (by kernel_rfl)) ?_
 intro W base args ds gs before hval0 hW hcnd _
 have hval:∀ (j:Nat) t v,Tryz.f5.params[j]?=some t→args[j]?=some v→Value.okWide Tryz.prog W .any base t v:=hval0
 have hW':=hW
 obtain⟨p,q,hA0,hV,rfl,hfz,hnd⟩:=hW
 have hA:DataW.TrodAll enc Tryz.prog W 0 (fun _ => true) true Tryz.f5.params.toList args.toList ds p:=hA0
 rw [Tryz.params5] at hA hval
 obtain⟨v0,vs0,d0,ds0,p0,q0,hargs,rfl,rfl,h0,r0⟩:=trodAll_cons hA
 obtain⟨v1,vs1,d1,ds1,p1,q1,rfl,rfl,rfl,h1,r1⟩:=trodAll_cons r0
 obtain⟨v2,vs2,d2,ds2,p2,q2,rfl,rfl,rfl,h2,r2⟩:=trodAll_cons r1
 obtain⟨rfl,rfl,rfl⟩:=trodAll_nil r2
 obtain rfl:args=#[v0,v1,v2]:=by cases args; simp_all
 obtain⟨rfl,rfl⟩:=trodVars_none hV
 have k0:=h0
 have lt0:∀ x ∈ p0,x.block < W.heap.size:=by obtain⟨m,hm⟩:=k0; exact DataW.trod_lt m _ _ _ hm
 obtain⟨x0,y0,l0,rfl,w0,f0⟩:=open_sta (hval 0 25 v0 rfl rfl) h0
 have k1:=h1
 have lt1:∀ x ∈ p1,x.block < W.heap.size:=by obtain⟨m,hm⟩:=k1; exact DataW.trod_lt m _ _ _ hm
 obtain⟨a1,rfl,w1⟩:=open_ev (hval 1 50 v1 rfl rfl) h1
 have k2:=h2
 have lt2:∀ x ∈ p2,x.block < W.heap.size:=by obtain⟨m,hm⟩:=k2; exact DataW.trod_lt m _ _ _ hm
 obtain⟨s2,rfl,hd2,hp2,w2⟩:=open_string Tryz.underlying9 (hval 2 9 v2 rfl rfl) h2
 obtain⟨a2,e2⟩ : ∃ l:List UInt8,s2=⟨l.toArray⟩:=⟨s2.data.toList,by cases s2; simp⟩
 subst e2
 have w2:a2.length≤maxLen:=by rw [← size_bytes]; exact w2
 clear hA0 hval0
 refine (walkViewTouches (w:=W) w0 f0 a1 w1 a2 w2).mono fun e W' ⟨he,bel⟩ => ?_
 subst he
 exact⟨_,rfl,_,_,_,[],_,[],hW',trodAll_mk1 (shut_bool Tryz.underlying4 _),(trodAll_cons_mk (Below.trod laidOut (by kernel_rfl) (of_decide_eq_true (by kernel_rfl)) k0 bel lt0) (trodAll_cons_mk (Below.trod laidOut (by kernel_rfl) (of_decide_eq_true (by kernel_rfl)) k1 bel lt1) (trodAll_cons_mk (Below.trod laidOut (by kernel_rfl) (of_decide_eq_true (by kernel_rfl)) k2 bel lt2) trodAll_mk0))),rfl,bel.frame _,fun h => by cases h⟩

theorem over:Rows.viewTouchesRow.holds Tryz.pinned (OpenSpec.ofChange Rows.viewTouchesSpec) :=
 OpenClaim.holds_of_wide 5 Tryz.f5 rfl rfl rfl rfl rfl rfl rfl ⟨rfl,rfl,rfl,rfl,rfl⟩ rfl rfl rfl rfl rfl (by kernel_rfl) Tryz.func5 (by kernel_rfl)
  (of_decide_eq_true (by kernel_rfl)) (by unfold Func.isWrapper; first | (rw [if_pos (by decide +kernel)]; kernel_rfl) | (rw [if_neg (by decide +kernel)]; exact⟨rfl,rfl⟩))
  (fun os started H enc _ => lifted os started H enc)

theorem proved:Rows.ViewTouchesSaid:=over
#print axioms proved
end Go.Proofs.YtphfinlfabklmaaGreat.viewTouches

end
