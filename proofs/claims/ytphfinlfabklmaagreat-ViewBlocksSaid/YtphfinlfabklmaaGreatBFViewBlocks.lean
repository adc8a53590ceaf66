/-
 THE PROOF OF ViewBlocks: for every input the law returns true, and each argument reads behind the call as it read before. No condition.
-/
import Derived.Test.YtphfinlfabklmaaGreatB40
import Derived.Test.YtphfinlfabklmaaGreatB23
import Derived.Deep.DeepCutAuto
import Derived.Deep.CutBlock
import Derived.Test.YtphfinlfabklmaaGreatB13
import Derived.Test.YtphfinlfabklmaaGreatRows
import Derived.ProofKit
import Derived.OpenShut
import Derived.ShutString
import Derived.ChangeOld
import Derived.SliceStrings
import Derived.Lib.SmallJoins

set_option maxHeartbeats 12800000
set_option maxRecDepth 100000

section

namespace Go.Proofs.YtphfinlfabklmaaGreat
open Go.RowKit

theorem diget_eqV {w:World} {v:Value} {t:List Row} (hv:Tab w v t) (key:List UInt8) {a b c:Int} {st:List UInt8} {r:Bool} (h:Hid (diGet t key=(⟨a,b,c,st⟩,r))) :
  Calls Tryz.prog 28 #[v,.string ⟨key.toArray⟩] w fun e w' => e=.returned (.tuple #[.agg #[.int .i64 a,.int .i64 b,.int .i64 c,.string ⟨st.toArray⟩],.bool r])∧Below w.heap.size w w':=by
 have k:=diget_any hv key
 rw [h.out] at k
 exact k

theorem vw_unsees {s t:Sta} {k:Int} {u c:List UInt8} {id ea eb ed:Int} {es:List UInt8} (h:stApply s ⟨k,u,c,id,⟨ea,eb,ed,es⟩⟩=(t,0)):(k=3∨k=5→(vwVal t u c).2=false)∧(k=4∨k=5→(vwVal t c u).2=false):=by
 obtain⟨h1,h2⟩:=st_unsees h
 refine ⟨fun hk => ?_,fun hk => ?_⟩
 ·cases hv:(vwVal t u c).2 with
  | false => rfl
  | true => have:=(vwVal_is.1 hv).1; rw [h1 hk] at this; cases this
 ·cases hv:(vwVal t c u).2 with
  | false => rfl
  | true => have:=(vwVal_is.1 hv).1; rw [h2 hk] at this; cases this

theorem vbl_1 {w:World} {x y:Value} {s:Sta} (h:StAt w x y s) (kk:Int) (u c es:List UInt8) (id ea eb ed:Int) (f1:fewSta s=false) :
  Calls Tryz.prog 7 #[.agg #[x,y],.agg #[.int .i64 kk,.string ⟨u.toArray⟩,.string ⟨c.toArray⟩,.int .i64 id,.int .i64 ea,.int .i64 eb,.int .i64 ed,.string ⟨es.toArray⟩]] w fun e w' => e=.returned (.bool true)∧Below w.heap.size w w':=by
 have b0:=bl_newZ w (.cells #[x,y] 25)
 have b1:=bl_newZ (w.alloc (.cells #[x,y] 25)) (.cells #[.int .i64 kk,.string ⟨u.toArray⟩,.string ⟨c.toArray⟩,.int .i64 id,.int .i64 ea,.int .i64 eb,.int .i64 ed,.string ⟨es.toArray⟩] 50)
 have HB:=hD (below2Z b0 b1)
 have H:=hD ((h.later b0).later b1)
 have SB:=newQ w (.cells #[x,y] 25)
 replace SB:=upQ SB b1
 replace SB:=hD SB
 have EB:=newQ (w.alloc (.cells #[x,y] 25)) (.cells #[.int .i64 kk,.string ⟨u.toArray⟩,.string ⟨c.toArray⟩,.int .i64 id,.int .i64 ea,.int .i64 eb,.int .i64 ed,.string ⟨es.toArray⟩] 50)
 rw [World.size_alloc] at EB
 replace EB:=hD EB
 clear b0 b1
 clear h
 have F1:=hD f1
 clear f1
 obtain⟨⟨SBc0,SBc1⟩,⟨SBf0,SBf1⟩⟩:=blk2 SB.out
 obtain⟨⟨EBc0,EBc1,EBc2,EBc3,EBc4,EBc5,EBc6,EBc7⟩,⟨EBf0,EBf1,EBf2,EBf3,EBf4,EBf5,EBf6,EBf7⟩⟩:=blk8 EB.out
 go_enter Tryz.func7,Tryz.ntmps7
 go_wp2_with fail
 clear SBc0 SBc1 SBf0 SBf1 EBc0 EBc1 EBc2 EBc3 EBc4 EBc5 EBc6 EBc7 EBf0 EBf1 EBf2 EBf3 EBf4 EBf5 EBf6 EBf7
 refine (fewst_any H.out F1).mono ?_
 rintro e w3 ⟨rfl,b3⟩
 replace SB:=hD (upQ SB.out b3)
 replace EB:=hD (upQ EB.out b3)
 replace H:=hD (H.out.later b3)
 replace HB:=hD (below2Z HB.out b3)
 clear b3
 go_wp2_with fail
 refine (live15 _).mono ?_
 rintro e w4 ⟨rfl,b4⟩
 replace SB:=hD (upQ SB.out b4)
 replace EB:=hD (upQ EB.out b4)
 replace H:=hD (H.out.later b4)
 replace HB:=hD (below2Z HB.out b4)
 clear b4
 go_wp2_with fail
 go_ret
 exact⟨rfl,HB.out⟩

theorem vbl_2 {w:World} {x y:Value} {s:Sta} (h:StAt w x y s) (kk:Int) (u c es:List UInt8) (id ea eb ed:Int) (f1:fewSta s=true) (f2:stMay s=false) :
  Calls Tryz.prog 7 #[.agg #[x,y],.agg #[.int .i64 kk,.string ⟨u.toArray⟩,.string ⟨c.toArray⟩,.int .i64 id,.int .i64 ea,.int .i64 eb,.int .i64 ed,.string ⟨es.toArray⟩]] w fun e w' => e=.returned (.bool true)∧Below w.heap.size w w':=by
 have b0:=bl_newZ w (.cells #[x,y] 25)
 have b1:=bl_newZ (w.alloc (.cells #[x,y] 25)) (.cells #[.int .i64 kk,.string ⟨u.toArray⟩,.string ⟨c.toArray⟩,.int .i64 id,.int .i64 ea,.int .i64 eb,.int .i64 ed,.string ⟨es.toArray⟩] 50)
 have HB:=hD (below2Z b0 b1)
 have H:=hD ((h.later b0).later b1)
 have SB:=newQ w (.cells #[x,y] 25)
 replace SB:=upQ SB b1
 replace SB:=hD SB
 have EB:=newQ (w.alloc (.cells #[x,y] 25)) (.cells #[.int .i64 kk,.string ⟨u.toArray⟩,.string ⟨c.toArray⟩,.int .i64 id,.int .i64 ea,.int .i64 eb,.int .i64 ed,.string ⟨es.toArray⟩] 50)
 rw [World.size_alloc] at EB
 replace EB:=hD EB
 clear b0 b1
 clear h
 obtain⟨HOK,he80,hs50⟩:=fewSta_V f1
 replace HOK:=hD HOK
 have F1:=hD f1
 have F2:=hD f2
 clear f1 f2
 obtain⟨⟨SBc0,SBc1⟩,⟨SBf0,SBf1⟩⟩:=blk2 SB.out
 obtain⟨⟨EBc0,EBc1,EBc2,EBc3,EBc4,EBc5,EBc6,EBc7⟩,⟨EBf0,EBf1,EBf2,EBf3,EBf4,EBf5,EBf6,EBf7⟩⟩:=blk8 EB.out
 go_enter Tryz.func7,Tryz.ntmps7
 go_wp2_with fail
 clear SBc0 SBc1 SBf0 SBf1 EBc0 EBc1 EBc2 EBc3 EBc4 EBc5 EBc6 EBc7 EBf0 EBf1 EBf2 EBf3 EBf4 EBf5 EBf6 EBf7
 refine (fewst_any H.out F1).mono ?_
 rintro e w3 ⟨rfl,b3⟩
 replace SB:=hD (upQ SB.out b3)
 replace EB:=hD (upQ EB.out b3)
 replace H:=hD (H.out.later b3)
 replace HB:=hD (below2Z HB.out b3)
 clear b3
 obtain⟨⟨SBc0,SBc1⟩,⟨SBf0,SBf1⟩⟩:=blk2 SB.out
 obtain⟨⟨EBc0,EBc1,EBc2,EBc3,EBc4,EBc5,EBc6,EBc7⟩,⟨EBf0,EBf1,EBf2,EBf3,EBf4,EBf5,EBf6,EBf7⟩⟩:=blk8 EB.out
 go_wp2_with fail
 clear SBc0 SBc1 SBf0 SBf1 EBc0 EBc1 EBc2 EBc3 EBc4 EBc5 EBc6 EBc7 EBf0 EBf1 EBf2 EBf3 EBf4 EBf5 EBf6 EBf7
 refine (rstmay_any H.out HOK.out.1 (by omega) HOK.out.2 F2).mono ?_
 rintro e w4 ⟨rfl,b4⟩
 replace SB:=hD (upQ SB.out b4)
 replace EB:=hD (upQ EB.out b4)
 replace H:=hD (H.out.later b4)
 replace HB:=hD (below2Z HB.out b4)
 clear b4
 go_wp2_with fail
 refine (live15 _).mono ?_
 rintro e w5 ⟨rfl,b5⟩
 replace SB:=hD (upQ SB.out b5)
 replace EB:=hD (upQ EB.out b5)
 replace H:=hD (H.out.later b5)
 replace HB:=hD (below2Z HB.out b5)
 clear b5
 go_wp2_with fail
 go_ret
 exact⟨rfl,HB.out⟩

theorem vbl_3 {w:World} {x y:Value} {s:Sta} (h:StAt w x y s) (kk:Int) (u c es:List UInt8) (id ea eb ed:Int) (f1:fewSta s=true) (f2:stMay s=true) (f3:shortEv ⟨kk,u,c,id,⟨ea,eb,ed,es⟩⟩=false) :
  Calls Tryz.prog 7 #[.agg #[x,y],.agg #[.int .i64 kk,.string ⟨u.toArray⟩,.string ⟨c.toArray⟩,.int .i64 id,.int .i64 ea,.int .i64 eb,.int .i64 ed,.string ⟨es.toArray⟩]] w fun e w' => e=.returned (.bool true)∧Below w.heap.size w w':=by
 have b0:=bl_newZ w (.cells #[x,y] 25)
 have b1:=bl_newZ (w.alloc (.cells #[x,y] 25)) (.cells #[.int .i64 kk,.string ⟨u.toArray⟩,.string ⟨c.toArray⟩,.int .i64 id,.int .i64 ea,.int .i64 eb,.int .i64 ed,.string ⟨es.toArray⟩] 50)
 have HB:=hD (below2Z b0 b1)
 have H:=hD ((h.later b0).later b1)
 have SB:=newQ w (.cells #[x,y] 25)
 replace SB:=upQ SB b1
 replace SB:=hD SB
 have EB:=newQ (w.alloc (.cells #[x,y] 25)) (.cells #[.int .i64 kk,.string ⟨u.toArray⟩,.string ⟨c.toArray⟩,.int .i64 id,.int .i64 ea,.int .i64 eb,.int .i64 ed,.string ⟨es.toArray⟩] 50)
 rw [World.size_alloc] at EB
 replace EB:=hD EB
 clear b0 b1
 clear h
 obtain⟨HOK,he80,hs50⟩:=fewSta_V f1
 replace HOK:=hD HOK
 have F1:=hD f1
 have F2:=hD f2
 have F3:=hD f3
 clear f1 f2 f3
 obtain⟨⟨SBc0,SBc1⟩,⟨SBf0,SBf1⟩⟩:=blk2 SB.out
 obtain⟨⟨EBc0,EBc1,EBc2,EBc3,EBc4,EBc5,EBc6,EBc7⟩,⟨EBf0,EBf1,EBf2,EBf3,EBf4,EBf5,EBf6,EBf7⟩⟩:=blk8 EB.out
 go_enter Tryz.func7,Tryz.ntmps7
 go_wp2_with fail
 clear SBc0 SBc1 SBf0 SBf1 EBc0 EBc1 EBc2 EBc3 EBc4 EBc5 EBc6 EBc7 EBf0 EBf1 EBf2 EBf3 EBf4 EBf5 EBf6 EBf7
 refine (fewst_any H.out F1).mono ?_
 rintro e w3 ⟨rfl,b3⟩
 replace SB:=hD (upQ SB.out b3)
 replace EB:=hD (upQ EB.out b3)
 replace H:=hD (H.out.later b3)
 replace HB:=hD (below2Z HB.out b3)
 clear b3
 obtain⟨⟨SBc0,SBc1⟩,⟨SBf0,SBf1⟩⟩:=blk2 SB.out
 obtain⟨⟨EBc0,EBc1,EBc2,EBc3,EBc4,EBc5,EBc6,EBc7⟩,⟨EBf0,EBf1,EBf2,EBf3,EBf4,EBf5,EBf6,EBf7⟩⟩:=blk8 EB.out
 go_wp2_with fail
 clear SBc0 SBc1 SBf0 SBf1 EBc0 EBc1 EBc2 EBc3 EBc4 EBc5 EBc6 EBc7 EBf0 EBf1 EBf2 EBf3 EBf4 EBf5 EBf6 EBf7
 refine (rstmay_any H.out HOK.out.1 (by omega) HOK.out.2 F2).mono ?_
 rintro e w4 ⟨rfl,b4⟩
 replace SB:=hD (upQ SB.out b4)
 replace EB:=hD (upQ EB.out b4)
 replace H:=hD (H.out.later b4)
 replace HB:=hD (below2Z HB.out b4)
 clear b4
 obtain⟨⟨SBc0,SBc1⟩,⟨SBf0,SBf1⟩⟩:=blk2 SB.out
 obtain⟨⟨EBc0,EBc1,EBc2,EBc3,EBc4,EBc5,EBc6,EBc7⟩,⟨EBf0,EBf1,EBf2,EBf3,EBf4,EBf5,EBf6,EBf7⟩⟩:=blk8 EB.out
 go_wp2_with fail
 clear SBc0 SBc1 SBf0 SBf1 EBc0 EBc1 EBc2 EBc3 EBc4 EBc5 EBc6 EBc7 EBf0 EBf1 EBf2 EBf3 EBf4 EBf5 EBf6 EBf7
 refine (short14_any kk u c es id ea eb ed F3 _).mono ?_
 rintro e w5 ⟨rfl,b5⟩
 replace SB:=hD (upQ SB.out b5)
 replace EB:=hD (upQ EB.out b5)
 replace H:=hD (H.out.later b5)
 replace HB:=hD (below2Z HB.out b5)
 clear b5
 go_wp2_with fail
 refine (live15 _).mono ?_
 rintro e w6 ⟨rfl,b6⟩
 replace SB:=hD (upQ SB.out b6)
 replace EB:=hD (upQ EB.out b6)
 replace H:=hD (H.out.later b6)
 replace HB:=hD (below2Z HB.out b6)
 clear b6
 go_wp2_with fail
 go_ret
 exact⟨rfl,HB.out⟩

theorem vbl_4 {w:World} {x y:Value} {s:Sta} (h:StAt w x y s) (kk:Int) (u c es:List UInt8) (id ea eb ed:Int) (f1:fewSta s=true) (f2:stMay s=true) (f3:shortEv ⟨kk,u,c,id,⟨ea,eb,ed,es⟩⟩=true) (k3:kk < 3) :
  Calls Tryz.prog 7 #[.agg #[x,y],.agg #[.int .i64 kk,.string ⟨u.toArray⟩,.string ⟨c.toArray⟩,.int .i64 id,.int .i64 ea,.int .i64 eb,.int .i64 ed,.string ⟨es.toArray⟩]] w fun e w' => e=.returned (.bool true)∧Below w.heap.size w w':=by
 have b0:=bl_newZ w (.cells #[x,y] 25)
 have b1:=bl_newZ (w.alloc (.cells #[x,y] 25)) (.cells #[.int .i64 kk,.string ⟨u.toArray⟩,.string ⟨c.toArray⟩,.int .i64 id,.int .i64 ea,.int .i64 eb,.int .i64 ed,.string ⟨es.toArray⟩] 50)
 have HB:=hD (below2Z b0 b1)
 have H:=hD ((h.later b0).later b1)
 have SB:=newQ w (.cells #[x,y] 25)
 replace SB:=upQ SB b1
 replace SB:=hD SB
 have EB:=newQ (w.alloc (.cells #[x,y] 25)) (.cells #[.int .i64 kk,.string ⟨u.toArray⟩,.string ⟨c.toArray⟩,.int .i64 id,.int .i64 ea,.int .i64 eb,.int .i64 ed,.string ⟨es.toArray⟩] 50)
 rw [World.size_alloc] at EB
 replace EB:=hD EB
 clear b0 b1
 clear h
 obtain⟨HOK,he80,hs50⟩:=fewSta_V f1
 replace HOK:=hD HOK
 obtain⟨hu,hc,hs⟩:=shortEv_get f3
 simp only at hu hc hs
 have F1:=hD f1
 have F2:=hD f2
 have F3:=hD f3
 clear f1 f2 f3
 have t1:decide (kk < 3)=true:=decide_eq_true k3
 clear k3
 obtain⟨⟨SBc0,SBc1⟩,⟨SBf0,SBf1⟩⟩:=blk2 SB.out
 obtain⟨⟨EBc0,EBc1,EBc2,EBc3,EBc4,EBc5,EBc6,EBc7⟩,⟨EBf0,EBf1,EBf2,EBf3,EBf4,EBf5,EBf6,EBf7⟩⟩:=blk8 EB.out
 go_enter Tryz.func7,Tryz.ntmps7
 go_wp2_with fail
 clear SBc0 SBc1 SBf0 SBf1 EBc0 EBc1 EBc2 EBc3 EBc4 EBc5 EBc6 EBc7 EBf0 EBf1 EBf2 EBf3 EBf4 EBf5 EBf6 EBf7
 refine (fewst_any H.out F1).mono ?_
 rintro e w3 ⟨rfl,b3⟩
 replace SB:=hD (upQ SB.out b3)
 replace EB:=hD (upQ EB.out b3)
 replace H:=hD (H.out.later b3)
 replace HB:=hD (below2Z HB.out b3)
 clear b3
 obtain⟨⟨SBc0,SBc1⟩,⟨SBf0,SBf1⟩⟩:=blk2 SB.out
 obtain⟨⟨EBc0,EBc1,EBc2,EBc3,EBc4,EBc5,EBc6,EBc7⟩,⟨EBf0,EBf1,EBf2,EBf3,EBf4,EBf5,EBf6,EBf7⟩⟩:=blk8 EB.out
 go_wp2_with fail
 clear SBc0 SBc1 SBf0 SBf1 EBc0 EBc1 EBc2 EBc3 EBc4 EBc5 EBc6 EBc7 EBf0 EBf1 EBf2 EBf3 EBf4 EBf5 EBf6 EBf7
 refine (rstmay_any H.out HOK.out.1 (by omega) HOK.out.2 F2).mono ?_
 rintro e w4 ⟨rfl,b4⟩
 replace SB:=hD (upQ SB.out b4)
 replace EB:=hD (upQ EB.out b4)
 replace H:=hD (H.out.later b4)
 replace HB:=hD (below2Z HB.out b4)
 clear b4
 obtain⟨⟨SBc0,SBc1⟩,⟨SBf0,SBf1⟩⟩:=blk2 SB.out
 obtain⟨⟨EBc0,EBc1,EBc2,EBc3,EBc4,EBc5,EBc6,EBc7⟩,⟨EBf0,EBf1,EBf2,EBf3,EBf4,EBf5,EBf6,EBf7⟩⟩:=blk8 EB.out
 go_wp2_with fail
 clear SBc0 SBc1 SBf0 SBf1 EBc0 EBc1 EBc2 EBc3 EBc4 EBc5 EBc6 EBc7 EBf0 EBf1 EBf2 EBf3 EBf4 EBf5 EBf6 EBf7
 refine (short14_any kk u c es id ea eb ed F3 _).mono ?_
 rintro e w5 ⟨rfl,b5⟩
 replace SB:=hD (upQ SB.out b5)
 replace EB:=hD (upQ EB.out b5)
 replace H:=hD (H.out.later b5)
 replace HB:=hD (below2Z HB.out b5)
 clear b5
 obtain⟨⟨SBc0,SBc1⟩,⟨SBf0,SBf1⟩⟩:=blk2 SB.out
 obtain⟨⟨EBc0,EBc1,EBc2,EBc3,EBc4,EBc5,EBc6,EBc7⟩,⟨EBf0,EBf1,EBf2,EBf3,EBf4,EBf5,EBf6,EBf7⟩⟩:=blk8 EB.out
 go_wp2_with fail
 clear SBc0 SBc1 SBf0 SBf1 EBc0 EBc1 EBc2 EBc3 EBc4 EBc5 EBc6 EBc7 EBf0 EBf1 EBf2 EBf3 EBf4 EBf5 EBf6 EBf7
 refine (live15 _).mono ?_
 rintro e w6 ⟨rfl,b6⟩
 replace SB:=hD (upQ SB.out b6)
 replace EB:=hD (upQ EB.out b6)
 replace H:=hD (H.out.later b6)
 replace HB:=hD (below2Z HB.out b6)
 clear b6
 go_wp2_with fail
 go_ret
 exact⟨rfl,HB.out⟩

theorem vbl_5 {w:World} {x y:Value} {s:Sta} (h:StAt w x y s) (kk:Int) (u c es:List UInt8) (id ea eb ed:Int) (f1:fewSta s=true) (f2:stMay s=true) (f3:shortEv ⟨kk,u,c,id,⟨ea,eb,ed,es⟩⟩=true) (k3:¬ kk < 3) (k5:5 < kk) :
  Calls Tryz.prog 7 #[.agg #[x,y],.agg #[.int .i64 kk,.string ⟨u.toArray⟩,.string ⟨c.toArray⟩,.int .i64 id,.int .i64 ea,.int .i64 eb,.int .i64 ed,.string ⟨es.toArray⟩]] w fun e w' => e=.returned (.bool true)∧Below w.heap.size w w':=by
 have b0:=bl_newZ w (.cells #[x,y] 25)
 have b1:=bl_newZ (w.alloc (.cells #[x,y] 25)) (.cells #[.int .i64 kk,.string ⟨u.toArray⟩,.string ⟨c.toArray⟩,.int .i64 id,.int .i64 ea,.int .i64 eb,.int .i64 ed,.string ⟨es.toArray⟩] 50)
 have HB:=hD (below2Z b0 b1)
 have H:=hD ((h.later b0).later b1)
 have SB:=newQ w (.cells #[x,y] 25)
 replace SB:=upQ SB b1
 replace SB:=hD SB
 have EB:=newQ (w.alloc (.cells #[x,y] 25)) (.cells #[.int .i64 kk,.string ⟨u.toArray⟩,.string ⟨c.toArray⟩,.int .i64 id,.int .i64 ea,.int .i64 eb,.int .i64 ed,.string ⟨es.toArray⟩] 50)
 rw [World.size_alloc] at EB
 replace EB:=hD EB
 clear b0 b1
 clear h
 obtain⟨HOK,he80,hs50⟩:=fewSta_V f1
 replace HOK:=hD HOK
 obtain⟨hu,hc,hs⟩:=shortEv_get f3
 simp only at hu hc hs
 have F1:=hD f1
 have F2:=hD f2
 have F3:=hD f3
 clear f1 f2 f3
 have t1:decide (kk < 3)=false:=decide_eq_false k3
 have t2:decide (5 < kk)=true:=decide_eq_true k5
 clear k3 k5
 obtain⟨⟨SBc0,SBc1⟩,⟨SBf0,SBf1⟩⟩:=blk2 SB.out
 obtain⟨⟨EBc0,EBc1,EBc2,EBc3,EBc4,EBc5,EBc6,EBc7⟩,⟨EBf0,EBf1,EBf2,EBf3,EBf4,EBf5,EBf6,EBf7⟩⟩:=blk8 EB.out
 go_enter Tryz.func7,Tryz.ntmps7
 go_wp2_with fail
 clear SBc0 SBc1 SBf0 SBf1 EBc0 EBc1 EBc2 EBc3 EBc4 EBc5 EBc6 EBc7 EBf0 EBf1 EBf2 EBf3 EBf4 EBf5 EBf6 EBf7
 refine (fewst_any H.out F1).mono ?_
 rintro e w3 ⟨rfl,b3⟩
 replace SB:=hD (upQ SB.out b3)
 replace EB:=hD (upQ EB.out b3)
 replace H:=hD (H.out.later b3)
 replace HB:=hD (below2Z HB.out b3)
 clear b3
 obtain⟨⟨SBc0,SBc1⟩,⟨SBf0,SBf1⟩⟩:=blk2 SB.out
 obtain⟨⟨EBc0,EBc1,EBc2,EBc3,EBc4,EBc5,EBc6,EBc7⟩,⟨EBf0,EBf1,EBf2,EBf3,EBf4,EBf5,EBf6,EBf7⟩⟩:=blk8 EB.out
 go_wp2_with fail
 clear SBc0 SBc1 SBf0 SBf1 EBc0 EBc1 EBc2 EBc3 EBc4 EBc5 EBc6 EBc7 EBf0 EBf1 EBf2 EBf3 EBf4 EBf5 EBf6 EBf7
 refine (rstmay_any H.out HOK.out.1 (by omega) HOK.out.2 F2).mono ?_
 rintro e w4 ⟨rfl,b4⟩
 replace SB:=hD (upQ SB.out b4)
 replace EB:=hD (upQ EB.out b4)
 replace H:=hD (H.out.later b4)
 replace HB:=hD (below2Z HB.out b4)
 clear b4
 obtain⟨⟨SBc0,SBc1⟩,⟨SBf0,SBf1⟩⟩:=blk2 SB.out
 obtain⟨⟨EBc0,EBc1,EBc2,EBc3,EBc4,EBc5,EBc6,EBc7⟩,⟨EBf0,EBf1,EBf2,EBf3,EBf4,EBf5,EBf6,EBf7⟩⟩:=blk8 EB.out
 go_wp2_with fail
 clear SBc0 SBc1 SBf0 SBf1 EBc0 EBc1 EBc2 EBc3 EBc4 EBc5 EBc6 EBc7 EBf0 EBf1 EBf2 EBf3 EBf4 EBf5 EBf6 EBf7
 refine (short14_any kk u c es id ea eb ed F3 _).mono ?_
 rintro e w5 ⟨rfl,b5⟩
 replace SB:=hD (upQ SB.out b5)
 replace EB:=hD (upQ EB.out b5)
 replace H:=hD (H.out.later b5)
 replace HB:=hD (below2Z HB.out b5)
 clear b5
 obtain⟨⟨SBc0,SBc1⟩,⟨SBf0,SBf1⟩⟩:=blk2 SB.out
 obtain⟨⟨EBc0,EBc1,EBc2,EBc3,EBc4,EBc5,EBc6,EBc7⟩,⟨EBf0,EBf1,EBf2,EBf3,EBf4,EBf5,EBf6,EBf7⟩⟩:=blk8 EB.out
 go_wp2_with fail
 clear SBc0 SBc1 SBf0 SBf1 EBc0 EBc1 EBc2 EBc3 EBc4 EBc5 EBc6 EBc7 EBf0 EBf1 EBf2 EBf3 EBf4 EBf5 EBf6 EBf7
 refine (live15 _).mono ?_
 rintro e w6 ⟨rfl,b6⟩
 replace SB:=hD (upQ SB.out b6)
 replace EB:=hD (upQ EB.out b6)
 replace H:=hD (H.out.later b6)
 replace HB:=hD (below2Z HB.out b6)
 clear b6
 go_wp2_with fail
 go_ret
 exact⟨rfl,HB.out⟩

theorem vbl_6 {w:World} {x y:Value} {s:Sta} (h:StAt w x y s) (kk:Int) (u c es:List UInt8) (id ea eb ed:Int) (f1:fewSta s=true) (f2:stMay s=true) (f3:shortEv ⟨kk,u,c,id,⟨ea,eb,ed,es⟩⟩=true) (k3:3≤kk) (k5:kk≤5) {t:Sta} {n:Nat} (hap:stApply s ⟨kk,u,c,id,⟨ea,eb,ed,es⟩⟩=(t,n)) (hn:0 < n) :
  Calls Tryz.prog 7 #[.agg #[x,y],.agg #[.int .i64 kk,.string ⟨u.toArray⟩,.string ⟨c.toArray⟩,.int .i64 id,.int .i64 ea,.int .i64 eb,.int .i64 ed,.string ⟨es.toArray⟩]] w fun e w' => e=.returned (.bool true)∧Below w.heap.size w w':=by
 have b0:=bl_newZ w (.cells #[x,y] 25)
 have b1:=bl_newZ (w.alloc (.cells #[x,y] 25)) (.cells #[.int .i64 kk,.string ⟨u.toArray⟩,.string ⟨c.toArray⟩,.int .i64 id,.int .i64 ea,.int .i64 eb,.int .i64 ed,.string ⟨es.toArray⟩] 50)
 have HB:=hD (below2Z b0 b1)
 have H:=hD ((h.later b0).later b1)
 have SB:=newQ w (.cells #[x,y] 25)
 replace SB:=upQ SB b1
 replace SB:=hD SB
 have EB:=newQ (w.alloc (.cells #[x,y] 25)) (.cells #[.int .i64 kk,.string ⟨u.toArray⟩,.string ⟨c.toArray⟩,.int .i64 id,.int .i64 ea,.int .i64 eb,.int .i64 ed,.string ⟨es.toArray⟩] 50)
 rw [World.size_alloc] at EB
 replace EB:=hD EB
 clear b0 b1
 clear h
 obtain⟨HOK,he80,hs50⟩:=fewSta_V f1
 replace HOK:=hD HOK
 obtain⟨hu,hc,hs⟩:=shortEv_get f3
 simp only at hu hc hs
 have F1:=hD f1
 have F2:=hD f2
 have F3:=hD f3
 clear f1 f2 f3
 have t1:decide (kk < 3)=false:=decide_eq_false (by omega)
 have t2:decide (5 < kk)=false:=decide_eq_false (by omega)
 have AP:=hD hap
 have hn1:(((n:Nat):Int) != 0)=true:=by rw [bne_iff_ne]; omega
 have hts:=stApply_err AP.out (by omega)
 subst hts
 clear hap hn
 obtain⟨⟨SBc0,SBc1⟩,⟨SBf0,SBf1⟩⟩:=blk2 SB.out
 obtain⟨⟨EBc0,EBc1,EBc2,EBc3,EBc4,EBc5,EBc6,EBc7⟩,⟨EBf0,EBf1,EBf2,EBf3,EBf4,EBf5,EBf6,EBf7⟩⟩:=blk8 EB.out
 go_enter Tryz.func7,Tryz.ntmps7
 go_wp2_with fail
 clear SBc0 SBc1 SBf0 SBf1 EBc0 EBc1 EBc2 EBc3 EBc4 EBc5 EBc6 EBc7 EBf0 EBf1 EBf2 EBf3 EBf4 EBf5 EBf6 EBf7
 refine (fewst_any H.out F1).mono ?_
 rintro e w3 ⟨rfl,b3⟩
 replace SB:=hD (upQ SB.out b3)
 replace EB:=hD (upQ EB.out b3)
 replace H:=hD (H.out.later b3)
 replace HB:=hD (below2Z HB.out b3)
 clear b3
 obtain⟨⟨SBc0,SBc1⟩,⟨SBf0,SBf1⟩⟩:=blk2 SB.out
 obtain⟨⟨EBc0,EBc1,EBc2,EBc3,EBc4,EBc5,EBc6,EBc7⟩,⟨EBf0,EBf1,EBf2,EBf3,EBf4,EBf5,EBf6,EBf7⟩⟩:=blk8 EB.out
 go_wp2_with fail
 clear SBc0 SBc1 SBf0 SBf1 EBc0 EBc1 EBc2 EBc3 EBc4 EBc5 EBc6 EBc7 EBf0 EBf1 EBf2 EBf3 EBf4 EBf5 EBf6 EBf7
 refine (rstmay_any H.out HOK.out.1 (by omega) HOK.out.2 F2).mono ?_
 rintro e w4 ⟨rfl,b4⟩
 replace SB:=hD (upQ SB.out b4)
 replace EB:=hD (upQ EB.out b4)
 replace H:=hD (H.out.later b4)
 replace HB:=hD (below2Z HB.out b4)
 clear b4
 obtain⟨⟨SBc0,SBc1⟩,⟨SBf0,SBf1⟩⟩:=blk2 SB.out
 obtain⟨⟨EBc0,EBc1,EBc2,EBc3,EBc4,EBc5,EBc6,EBc7⟩,⟨EBf0,EBf1,EBf2,EBf3,EBf4,EBf5,EBf6,EBf7⟩⟩:=blk8 EB.out
 go_wp2_with fail
 clear SBc0 SBc1 SBf0 SBf1 EBc0 EBc1 EBc2 EBc3 EBc4 EBc5 EBc6 EBc7 EBf0 EBf1 EBf2 EBf3 EBf4 EBf5 EBf6 EBf7
 refine (short14_any kk u c es id ea eb ed F3 _).mono ?_
 rintro e w5 ⟨rfl,b5⟩
 replace SB:=hD (upQ SB.out b5)
 replace EB:=hD (upQ EB.out b5)
 replace H:=hD (H.out.later b5)
 replace HB:=hD (below2Z HB.out b5)
 clear b5
 obtain⟨⟨SBc0,SBc1⟩,⟨SBf0,SBf1⟩⟩:=blk2 SB.out
 obtain⟨⟨EBc0,EBc1,EBc2,EBc3,EBc4,EBc5,EBc6,EBc7⟩,⟨EBf0,EBf1,EBf2,EBf3,EBf4,EBf5,EBf6,EBf7⟩⟩:=blk8 EB.out
 go_wp2_with fail
 clear SBc0 SBc1 SBf0 SBf1 EBc0 EBc1 EBc2 EBc3 EBc4 EBc5 EBc6 EBc7 EBf0 EBf1 EBf2 EBf3 EBf4 EBf5 EBf6 EBf7
 refine (stdo_any H.out HOK.out.1 (by omega) HOK.out.2 ⟨kk,u,c,id,⟨ea,eb,ed,es⟩⟩ (by simp only; omega) (by simp only; omega) (by simp only; omega) AP.out).mono ?_
 rintro e w6 ⟨p,q,rfl,hk1,b6⟩
 replace SB:=hD (upQ SB.out b6)
 replace EB:=hD (upQ EB.out b6)
 replace H:=hD (H.out.later b6)
 replace HB:=hD (below2Z HB.out b6)
 obtain⟨pa,pc,rfl⟩:=ents_shape hk1.1 rfl
 obtain⟨qa,qc,rfl⟩:=rdS_shape hk1.2 rfl
 have K:=hD hk1
 clear hk1
 clear b6
 have b7:=bl_newZ w6 (.cells #[.slice pa t.e.length pc,.slice qa t.s.length qc] 25)
 have TB:=newQ w6 (.cells #[.slice pa t.e.length pc,.slice qa t.s.length qc] 25)
 have hTB:w.heap.size≤w6.heap.size:=HB.out.size
 replace SB:=hD (upQ SB.out b7)
 replace EB:=hD (upQ EB.out b7)
 replace H:=hD (H.out.later b7)
 replace K:=hD (K.out.later b7)
 replace HB:=hD (below2Z HB.out b7)
 clear b7
 replace TB:=hD TB
 obtain⟨⟨SBc0,SBc1⟩,⟨SBf0,SBf1⟩⟩:=blk2 SB.out
 obtain⟨⟨TBc0,TBc1⟩,⟨TBf0,TBf1⟩⟩:=blk2 TB.out
 go_wp2_with fail
 clear SBc0 SBc1 SBf0 SBf1 TBc0 TBc1 TBf0 TBf1
 generalize w6.alloc (.cells #[.slice pa t.e.length pc,.slice qa t.s.length qc] 25)=w8 at SB EB TB H K HB ⊢
 refine (stsame_any H.out K.out (hD (staSame_self _))).mono ?_
 rintro e w9 ⟨rfl,b9⟩
 replace SB:=hD (upQ SB.out b9)
 replace EB:=hD (upQ EB.out b9)
 replace TB:=hD (upQ TB.out b9)
 replace H:=hD (H.out.later b9)
 replace K:=hD (K.out.later b9)
 replace HB:=hD (below2Z HB.out b9)
 clear b9
 go_wp2_with fail
 refine (live15 _).mono ?_
 rintro e w10 ⟨rfl,b10⟩
 replace SB:=hD (upQ SB.out b10)
 replace EB:=hD (upQ EB.out b10)
 replace TB:=hD (upQ TB.out b10)
 replace H:=hD (H.out.later b10)
 replace K:=hD (K.out.later b10)
 replace HB:=hD (below2Z HB.out b10)
 clear b10
 go_wp2_with fail
 go_ret
 exact⟨rfl,HB.out⟩

theorem vbl_k3 {w:World} {x y:Value} {s:Sta} (h:StAt w x y s) (u c es:List UInt8) (id ea eb ed:Int) (f1:fewSta s=true) (f2:stMay s=true) (f3:shortEv ⟨3,u,c,id,⟨ea,eb,ed,es⟩⟩=true) {t:Sta} (hap:stApply s ⟨3,u,c,id,⟨ea,eb,ed,es⟩⟩=(t,0)) :
  Calls Tryz.prog 7 #[.agg #[x,y],.agg #[.int .i64 3,.string ⟨u.toArray⟩,.string ⟨c.toArray⟩,.int .i64 id,.int .i64 ea,.int .i64 eb,.int .i64 ed,.string ⟨es.toArray⟩]] w fun e w' => e=.returned (.bool true)∧Below w.heap.size w w':=by
 have b0:=bl_newZ w (.cells #[x,y] 25)
 have b1:=bl_newZ (w.alloc (.cells #[x,y] 25)) (.cells #[.int .i64 3,.string ⟨u.toArray⟩,.string ⟨c.toArray⟩,.int .i64 id,.int .i64 ea,.int .i64 eb,.int .i64 ed,.string ⟨es.toArray⟩] 50)
 have HB:=hD (below2Z b0 b1)
 have H:=hD ((h.later b0).later b1)
 have SB:=newQ w (.cells #[x,y] 25)
 replace SB:=upQ SB b1
 replace SB:=hD SB
 have EB:=newQ (w.alloc (.cells #[x,y] 25)) (.cells #[.int .i64 3,.string ⟨u.toArray⟩,.string ⟨c.toArray⟩,.int .i64 id,.int .i64 ea,.int .i64 eb,.int .i64 ed,.string ⟨es.toArray⟩] 50)
 rw [World.size_alloc] at EB
 replace EB:=hD EB
 clear b0 b1
 clear h
 obtain⟨HOK,he80,hs50⟩:=fewSta_V f1
 replace HOK:=hD HOK
 obtain⟨hu,hc,hs⟩:=shortEv_get f3
 simp only at hu hc hs
 have F1:=hD f1
 have F2:=hD f2
 have F3:=hD f3
 clear f1 f2 f3
 have AP:=hD hap
 have hMt:=stApply_may hap
 obtain⟨hun1,hun2⟩:=vw_unsees hap
 have hle:t.e.length≤4294967:=by have:=stLen_next hap; omega
 clear hap
 obtain⟨⟨⟨va,vb,vc,vs⟩,r⟩,hv⟩ : ∃ p,vwVal t u c=p:=⟨_,rfl⟩
 obtain⟨⟨⟨ya,yb,yc,ys⟩,r2⟩,hv2⟩ : ∃ p,vwVal t c u=p:=⟨_,rfl⟩
 rw [hv] at hun1
 rw [hv2] at hun2
 simp only at hun1 hun2
 obtain rfl:r=false:=by first | exact hun1 (.inl rfl) | exact hun1 (.inr rfl) | simpa using hun1
 have HV:Hid (vwValue t u c=(⟨va,vb,vc,vs⟩,false)):=hD (by rw [vwValue_is hMt]; exact hv)
 have HV2:Hid (vwValue t c u=(⟨ya,yb,yc,ys⟩,r2)):=hD (by rw [vwValue_is hMt]; exact hv2)
 have HG:Hid (diGet (vwOf t u) c=(⟨va,vb,vc,vs⟩,false)):=hD (by rw [vwOf_get hMt]; exact hv)
 have HR:Hid (∀ z ∈ vwWat t c,z=u→false=true):=hD (fun z hz e => by subst e; have:=(vwWat_mem hMt).1 hz; rw [hv] at this; exact this)
 have KOK:=hD (stOK_may hMt)
 obtain⟨nw,hnw⟩ : ∃ n,(vwWat t c).length=n:=⟨_,rfl⟩
 have NW:=hD hnw
 have hnw80:nw≤4294967:=by rw [← hnw]; exact Nat.le_trans (vwWat_le t c) hle
 clear hMt hv hv2 hnw hun1 hun2
 have e2:=bool_eql false
 obtain⟨⟨SBc0,SBc1⟩,⟨SBf0,SBf1⟩⟩:=blk2 SB.out
 obtain⟨⟨EBc0,EBc1,EBc2,EBc3,EBc4,EBc5,EBc6,EBc7⟩,⟨EBf0,EBf1,EBf2,EBf3,EBf4,EBf5,EBf6,EBf7⟩⟩:=blk8 EB.out
 go_enter Tryz.func7,Tryz.ntmps7
 go_wp2_with fail
 clear SBc0 SBc1 SBf0 SBf1 EBc0 EBc1 EBc2 EBc3 EBc4 EBc5 EBc6 EBc7 EBf0 EBf1 EBf2 EBf3 EBf4 EBf5 EBf6 EBf7
 refine (fewst_any H.out F1).mono ?_
 rintro e w3 ⟨rfl,b3⟩
 replace SB:=hD (upQ SB.out b3)
 replace EB:=hD (upQ EB.out b3)
 replace H:=hD (H.out.later b3)
 replace HB:=hD (below2Z HB.out b3)
 clear b3
 obtain⟨⟨SBc0,SBc1⟩,⟨SBf0,SBf1⟩⟩:=blk2 SB.out
 obtain⟨⟨EBc0,EBc1,EBc2,EBc3,EBc4,EBc5,EBc6,EBc7⟩,⟨EBf0,EBf1,EBf2,EBf3,EBf4,EBf5,EBf6,EBf7⟩⟩:=blk8 EB.out
 go_wp2_with fail
 clear SBc0 SBc1 SBf0 SBf1 EBc0 EBc1 EBc2 EBc3 EBc4 EBc5 EBc6 EBc7 EBf0 EBf1 EBf2 EBf3 EBf4 EBf5 EBf6 EBf7
 refine (rstmay_any H.out HOK.out.1 (by omega) HOK.out.2 F2).mono ?_
 rintro e w4 ⟨rfl,b4⟩
 replace SB:=hD (upQ SB.out b4)
 replace EB:=hD (upQ EB.out b4)
 replace H:=hD (H.out.later b4)
 replace HB:=hD (below2Z HB.out b4)
 clear b4
 obtain⟨⟨SBc0,SBc1⟩,⟨SBf0,SBf1⟩⟩:=blk2 SB.out
 obtain⟨⟨EBc0,EBc1,EBc2,EBc3,EBc4,EBc5,EBc6,EBc7⟩,⟨EBf0,EBf1,EBf2,EBf3,EBf4,EBf5,EBf6,EBf7⟩⟩:=blk8 EB.out
 go_wp2_with fail
 clear SBc0 SBc1 SBf0 SBf1 EBc0 EBc1 EBc2 EBc3 EBc4 EBc5 EBc6 EBc7 EBf0 EBf1 EBf2 EBf3 EBf4 EBf5 EBf6 EBf7
 refine (short14_any 3 u c es id ea eb ed F3 _).mono ?_
 rintro e w5 ⟨rfl,b5⟩
 replace SB:=hD (upQ SB.out b5)
 replace EB:=hD (upQ EB.out b5)
 replace H:=hD (H.out.later b5)
 replace HB:=hD (below2Z HB.out b5)
 clear b5
 obtain⟨⟨SBc0,SBc1⟩,⟨SBf0,SBf1⟩⟩:=blk2 SB.out
 obtain⟨⟨EBc0,EBc1,EBc2,EBc3,EBc4,EBc5,EBc6,EBc7⟩,⟨EBf0,EBf1,EBf2,EBf3,EBf4,EBf5,EBf6,EBf7⟩⟩:=blk8 EB.out
 go_wp2_with fail
 clear SBc0 SBc1 SBf0 SBf1 EBc0 EBc1 EBc2 EBc3 EBc4 EBc5 EBc6 EBc7 EBf0 EBf1 EBf2 EBf3 EBf4 EBf5 EBf6 EBf7
 refine (stdo_any H.out HOK.out.1 (by omega) HOK.out.2 ⟨3,u,c,id,⟨ea,eb,ed,es⟩⟩ (by simp only; omega) (by simp only; omega) (by simp only; omega) AP.out).mono ?_
 rintro e w6 ⟨p,q,rfl,hk1,b6⟩
 replace SB:=hD (upQ SB.out b6)
 replace EB:=hD (upQ EB.out b6)
 replace H:=hD (H.out.later b6)
 replace HB:=hD (below2Z HB.out b6)
 obtain⟨pa,pc,rfl⟩:=ents_shape hk1.1 rfl
 obtain⟨qa,qc,rfl⟩:=rdS_shape hk1.2 rfl
 have K:=hD hk1
 clear hk1
 clear b6
 have b7:=bl_newZ w6 (.cells #[.slice pa t.e.length pc,.slice qa t.s.length qc] 25)
 have TB:=newQ w6 (.cells #[.slice pa t.e.length pc,.slice qa t.s.length qc] 25)
 have hTB:w.heap.size≤w6.heap.size:=HB.out.size
 replace SB:=hD (upQ SB.out b7)
 replace EB:=hD (upQ EB.out b7)
 replace H:=hD (H.out.later b7)
 replace K:=hD (K.out.later b7)
 replace HB:=hD (below2Z HB.out b7)
 clear b7
 replace TB:=hD TB
 obtain⟨⟨SBc0,SBc1⟩,⟨SBf0,SBf1⟩⟩:=blk2 SB.out
 obtain⟨⟨TBc0,TBc1⟩,⟨TBf0,TBf1⟩⟩:=blk2 TB.out
 obtain⟨⟨EBc0,EBc1,EBc2,EBc3,EBc4,EBc5,EBc6,EBc7⟩,⟨EBf0,EBf1,EBf2,EBf3,EBf4,EBf5,EBf6,EBf7⟩⟩:=blk8 EB.out
 go_wp2_with fail
 clear SBc0 SBc1 SBf0 SBf1 TBc0 TBc1 TBf0 TBf1 EBc0 EBc1 EBc2 EBc3 EBc4 EBc5 EBc6 EBc7 EBf0 EBf1 EBf2 EBf3 EBf4 EBf5 EBf6 EBf7
 generalize w6.alloc (.cells #[.slice pa t.e.length pc,.slice qa t.s.length qc] 25)=w8 at SB EB TB H K HB ⊢
 refine (vwvalue_any K.out KOK.out u c HV).mono ?_
 rintro e w9 ⟨rfl,b9⟩
 replace SB:=hD (upQ SB.out b9)
 replace EB:=hD (upQ EB.out b9)
 replace TB:=hD (upQ TB.out b9)
 replace H:=hD (H.out.later b9)
 replace K:=hD (K.out.later b9)
 replace HB:=hD (below2Z HB.out b9)
 clear b9
 have b10:=bl_newZ w9 (.cells #[.int .i64 va,.int .i64 vb,.int .i64 vc,.string ⟨vs.toArray⟩] 30)
 have VA:=newQ w9 (.cells #[.int .i64 va,.int .i64 vb,.int .i64 vc,.string ⟨vs.toArray⟩] 30)
 have hVA:w.heap.size≤w9.heap.size:=HB.out.size
 replace SB:=hD (upQ SB.out b10)
 replace EB:=hD (upQ EB.out b10)
 replace TB:=hD (upQ TB.out b10)
 replace H:=hD (H.out.later b10)
 replace K:=hD (K.out.later b10)
 replace HB:=hD (below2Z HB.out b10)
 clear b10
 replace VA:=hD VA
 obtain⟨⟨TBc0,TBc1⟩,⟨TBf0,TBf1⟩⟩:=blk2 TB.out
 obtain⟨⟨EBc0,EBc1,EBc2,EBc3,EBc4,EBc5,EBc6,EBc7⟩,⟨EBf0,EBf1,EBf2,EBf3,EBf4,EBf5,EBf6,EBf7⟩⟩:=blk8 EB.out
 go_wp2_with fail
 clear TBc0 TBc1 TBf0 TBf1 EBc0 EBc1 EBc2 EBc3 EBc4 EBc5 EBc6 EBc7 EBf0 EBf1 EBf2 EBf3 EBf4 EBf5 EBf6 EBf7
 generalize w9.alloc (.cells #[.int .i64 va,.int .i64 vb,.int .i64 vc,.string ⟨vs.toArray⟩] 30)=w11 at SB EB TB VA H K HB ⊢
 clear VA
 refine (vwvalue_any K.out KOK.out c u HV2).mono ?_
 rintro e w12 ⟨rfl,b12⟩
 replace SB:=hD (upQ SB.out b12)
 replace EB:=hD (upQ EB.out b12)
 replace TB:=hD (upQ TB.out b12)
 replace H:=hD (H.out.later b12)
 replace K:=hD (K.out.later b12)
 replace HB:=hD (below2Z HB.out b12)
 clear b12
 have b13:=bl_newZ w12 (.cells #[.int .i64 ya,.int .i64 yb,.int .i64 yc,.string ⟨ys.toArray⟩] 30)
 have VB:=newQ w12 (.cells #[.int .i64 ya,.int .i64 yb,.int .i64 yc,.string ⟨ys.toArray⟩] 30)
 have hVB:w.heap.size≤w12.heap.size:=HB.out.size
 replace SB:=hD (upQ SB.out b13)
 replace EB:=hD (upQ EB.out b13)
 replace TB:=hD (upQ TB.out b13)
 replace H:=hD (H.out.later b13)
 replace K:=hD (K.out.later b13)
 replace HB:=hD (below2Z HB.out b13)
 clear b13
 replace VB:=hD VB
 obtain⟨⟨EBc0,EBc1,EBc2,EBc3,EBc4,EBc5,EBc6,EBc7⟩,⟨EBf0,EBf1,EBf2,EBf3,EBf4,EBf5,EBf6,EBf7⟩⟩:=blk8 EB.out
 obtain⟨⟨TBc0,TBc1⟩,⟨TBf0,TBf1⟩⟩:=blk2 TB.out
 go_upto_region 10 with fail
 clear EBc0 EBc1 EBc2 EBc3 EBc4 EBc5 EBc6 EBc7 EBf0 EBf1 EBf2 EBf3 EBf4 EBf5 EBf6 EBf7 TBc0 TBc1 TBf0 TBf1
 generalize w12.alloc (.cells #[.int .i64 ya,.int .i64 yb,.int .i64 yc,.string ⟨ys.toArray⟩] 30)=w14 at SB EB TB VB H K HB ⊢
 clear VB
 go_cut [11,12] from 85 to 94 (fun p z wx => ∃ B,p=.pointer (some ⟨B,0,none⟩)∧z=.bool false∧Hid (CellsAt wx B 0 [.int .i64 va,.int .i64 vb,.int .i64 vc,.string ⟨vs.toArray⟩])∧Hid (Below w14.heap.size w14 wx))
 case first =>
  obtain⟨BS,hBS⟩ : ∃ BS:List (Nat × List Value),BS=[(w6.heap.size,[.slice pa t.e.length pc,.slice qa t.s.length qc]),(w.heap.size+1,[.int .i64 3,.string ⟨u.toArray⟩,.string ⟨c.toArray⟩,.int .i64 id,.int .i64 ea,.int .i64 eb,.int .i64 ed,.string ⟨es.toArray⟩])]:=⟨_,rfl⟩
  have D0:=hD (show heldB w14 BS from by rw [hBS]; exact heldB_cons (cellsAt_block TB.out) (heldB_cons (cellsAt_block EB.out) (heldB_nil _)))
  have hq0:∀ X,heldB X BS→X.cell? ⟨w6.heap.size,0,none⟩=some (.slice pa t.e.length pc):=fun X hx => heldB_get (vs:=[.slice pa t.e.length pc,.slice qa t.s.length qc]) hx (by rw [hBS]; simp) rfl
  have hq1:∀ X,heldB X BS→X.cell? ⟨w6.heap.size,1,none⟩=some (.slice qa t.s.length qc):=fun X hx => heldB_get (vs:=[.slice pa t.e.length pc,.slice qa t.s.length qc]) hx (by rw [hBS]; simp) rfl
  have hq2:∀ X,heldB X BS→X.cell? ⟨w.heap.size+1,0,none⟩=some (.int .i64 3):=fun X hx => heldB_get (vs:=[.int .i64 3,.string ⟨u.toArray⟩,.string ⟨c.toArray⟩,.int .i64 id,.int .i64 ea,.int .i64 eb,.int .i64 ed,.string ⟨es.toArray⟩]) hx (by rw [hBS]; simp) rfl
  have hq3:∀ X,heldB X BS→X.cell? ⟨w.heap.size+1,1,none⟩=some (.string ⟨u.toArray⟩):=fun X hx => heldB_get (vs:=[.int .i64 3,.string ⟨u.toArray⟩,.string ⟨c.toArray⟩,.int .i64 id,.int .i64 ea,.int .i64 eb,.int .i64 ed,.string ⟨es.toArray⟩]) hx (by rw [hBS]; simp) rfl
  have hq4:∀ X,heldB X BS→X.cell? ⟨w.heap.size+1,2,none⟩=some (.string ⟨c.toArray⟩):=fun X hx => heldB_get (vs:=[.int .i64 3,.string ⟨u.toArray⟩,.string ⟨c.toArray⟩,.int .i64 id,.int .i64 ea,.int .i64 eb,.int .i64 ed,.string ⟨es.toArray⟩]) hx (by rw [hBS]; simp) rfl
  have hq5:∀ X,heldB X BS→X.cell? ⟨w.heap.size+1,3,none⟩=some (.int .i64 id):=fun X hx => heldB_get (vs:=[.int .i64 3,.string ⟨u.toArray⟩,.string ⟨c.toArray⟩,.int .i64 id,.int .i64 ea,.int .i64 eb,.int .i64 ed,.string ⟨es.toArray⟩]) hx (by rw [hBS]; simp) rfl
  have hq6:∀ X,heldB X BS→X.cell? ⟨w.heap.size+1,4,none⟩=some (.int .i64 ea):=fun X hx => heldB_get (vs:=[.int .i64 3,.string ⟨u.toArray⟩,.string ⟨c.toArray⟩,.int .i64 id,.int .i64 ea,.int .i64 eb,.int .i64 ed,.string ⟨es.toArray⟩]) hx (by rw [hBS]; simp) rfl
  have hq7:∀ X,heldB X BS→X.cell? ⟨w.heap.size+1,5,none⟩=some (.int .i64 eb):=fun X hx => heldB_get (vs:=[.int .i64 3,.string ⟨u.toArray⟩,.string ⟨c.toArray⟩,.int .i64 id,.int .i64 ea,.int .i64 eb,.int .i64 ed,.string ⟨es.toArray⟩]) hx (by rw [hBS]; simp) rfl
  have hq8:∀ X,heldB X BS→X.cell? ⟨w.heap.size+1,6,none⟩=some (.int .i64 ed):=fun X hx => heldB_get (vs:=[.int .i64 3,.string ⟨u.toArray⟩,.string ⟨c.toArray⟩,.int .i64 id,.int .i64 ea,.int .i64 eb,.int .i64 ed,.string ⟨es.toArray⟩]) hx (by rw [hBS]; simp) rfl
  have hq9:∀ X,heldB X BS→X.cell? ⟨w.heap.size+1,7,none⟩=some (.string ⟨es.toArray⟩):=fun X hx => heldB_get (vs:=[.int .i64 3,.string ⟨u.toArray⟩,.string ⟨c.toArray⟩,.int .i64 id,.int .i64 ea,.int .i64 eb,.int .i64 ed,.string ⟨es.toArray⟩]) hx (by rw [hBS]; simp) rfl
  clear hBS
  have K0:Hid (Below w14.heap.size w14 w14.drew):=hD (Below.refl _ _).drew
  refine wp_region_held_drew (S:=(fun X => heldB X BS)) (by kernel_rfl) ?_ (fun hHeld => ?_)
  ·exact heldB_up K0.out D0.out
  generalize w14.drew=z0 at K0 hHeld ⊢
  refine wpAnyH_take (i:=0) (oi:=⟨some 86,.load 25 (.tmp 5),25,"law.go:128",#[],none⟩) (v:=?_) rfl (by as_aux_lemma => kernel_rfl) (by as_aux_lemma => kernel_rfl) (by as_aux_lemma => kernel_rfl) (fun _ _ _ h => h) (Or.inl ⟨by rfl,?_⟩) (by assumption) ?_
  rotate_left
  ·intro w' hSw
   try dsimp only at hSw
   go_simp
   try with_reducible rfl
  try simp only [Act.put,List.setIfInBounds_toArray,List.set_cons_zero,List.set_cons_succ]
  refine wpAnyH_take (i:=1) (oi:=⟨some 87,.fieldAddr 50 (.tmp 3) 1,0,"law.go:128",#[],none⟩) (v:=?_) rfl (by as_aux_lemma => kernel_rfl) (by as_aux_lemma => kernel_rfl) (by as_aux_lemma => kernel_rfl) (fun _ _ _ h => h) (Or.inl ⟨by rfl,?_⟩) (by assumption) ?_
  rotate_left
  ·intro w' hSw
   try dsimp only at hSw
   go_simp
   try with_reducible rfl
  try simp only [Act.put,List.setIfInBounds_toArray,List.set_cons_zero,List.set_cons_succ]
  refine wpAnyH_take (i:=2) (oi:=⟨some 88,.load 9 (.tmp 87),9,"law.go:128",#[⟨1,.data⟩],none⟩) (v:=?_) rfl (by as_aux_lemma => kernel_rfl) (by as_aux_lemma => kernel_rfl) (by as_aux_lemma => kernel_rfl) (fun _ _ _ h => h) (Or.inl ⟨by rfl,?_⟩) (by assumption) ?_
  rotate_left
  ·intro w' hSw
   try dsimp only at hSw
   go_simp
   try with_reducible rfl
  try simp only [Act.put,List.setIfInBounds_toArray,List.set_cons_zero,List.set_cons_succ]
  refine wpAnyH_take (i:=4) (oi:=⟨some 90,.fieldAddr 50 (.tmp 3) 2,0,"law.go:128",#[],none⟩) (v:=?_) rfl (by as_aux_lemma => kernel_rfl) (by as_aux_lemma => kernel_rfl) (by as_aux_lemma => kernel_rfl) (fun _ _ _ h => h) (Or.inl ⟨by rfl,?_⟩) (by assumption) ?_
  rotate_left
  ·intro w' hSw
   try dsimp only at hSw
   go_simp
   try with_reducible rfl
  try simp only [Act.put,List.setIfInBounds_toArray,List.set_cons_zero,List.set_cons_succ]
  refine wpAnyH_take (i:=5) (oi:=⟨some 91,.load 9 (.tmp 90),9,"law.go:128",#[⟨4,.data⟩],none⟩) (v:=?_) rfl (by as_aux_lemma => kernel_rfl) (by as_aux_lemma => kernel_rfl) (by as_aux_lemma => kernel_rfl) (fun _ _ _ h => h) (Or.inl ⟨by rfl,?_⟩) (by assumption) ?_
  rotate_left
  ·intro w' hSw
   try dsimp only at hSw
   go_simp
   try with_reducible rfl
  try simp only [Act.put,List.setIfInBounds_toArray,List.set_cons_zero,List.set_cons_succ]
  refine wpAnyH_ready (rs:=[3,10]) (by as_aux_lemma => kernel_rfl) (by simp) ?_
  refine AllReadyH.cons (o:=⟨some 89,.call { callee:=.value (.func 18),args:=#[.tmp 86,.tmp 88],argTypes:=#[25,9] },34,"law.go:128",#[⟨0,.data⟩,⟨2,.data⟩],none⟩) rfl (fun Kx hK => ?_) (AllReadyH.cons (o:=⟨some 11,.alloc 30,0,"law.go:128",#[],none⟩) rfl (fun Kx hK => ?_) (AllReadyH.nil))
  ·go_simp
   refine (vwof_any (K.out.later K0.out) KOK.out hle u).mono ?_
   rintro e z10001 ⟨vA1,rfl,hA1,bz10001⟩
   have K10001:=hD (below2Z K0.out bz10001)
   have D10001:=hD (heldB_up K10001.out D0.out)
   have A1:=hD hA1.tab
   clear hA1
   clear bz10001
   go_wp2_with fail
   refine hK.out _ _ ?_ (fun hHeld2 => ?_)
   ·exact D10001.out
   clear hK Kx hHeld
   have hHeld:=hHeld2
   clear hHeld2
   try simp only [Act.put,List.setIfInBounds_toArray,List.set_cons_zero,List.set_cons_succ]
   refine wpAnyH_ready (rs:=[6,10]) (by as_aux_lemma => kernel_rfl) (by simp) ?_
   refine AllReadyH.cons (o:=⟨some 92,.call { callee:=.value (.func 28),args:=#[.tmp 89,.tmp 91],argTypes:=#[34,9] },31,"law.go:128",#[⟨3,.data⟩,⟨5,.data⟩,⟨3,.chain⟩],none⟩) rfl (fun Kx hK => ?_) (AllReadyH.cons (o:=⟨some 11,.alloc 30,0,"law.go:128",#[],none⟩) rfl (fun Kx hK => ?_) (AllReadyH.nil))
   ·go_simp
    refine (diget_eqV A1.out c HG).mono ?_
    rintro e z10002 ⟨rfl,bz10002⟩
    have K10002:=hD (below2Z K10001.out bz10002)
    have D10002:=hD (heldB_up K10002.out D0.out)
    replace A1:=hD (Tab.later A1.out bz10002)
    clear bz10002
    go_wp2_with fail
    refine hK.out _ _ ?_ (fun hHeld2 => ?_)
    ·exact D10002.out
    clear hK Kx hHeld
    have hHeld:=hHeld2
    clear hHeld2
    try simp only [Act.put,List.setIfInBounds_toArray,List.set_cons_zero,List.set_cons_succ]
    refine wpAnyH_take (i:=7) (oi:=⟨some 85,.move (.tmp 92),31,"law.go:128",#[⟨6,.data⟩],none⟩) (v:=?_) rfl (by as_aux_lemma => kernel_rfl) (by as_aux_lemma => kernel_rfl) (by as_aux_lemma => kernel_rfl) (fun _ _ _ h => h) (Or.inl ⟨by rfl,?_⟩) (by assumption) ?_
    rotate_left
    ·intro w' hSw
     try dsimp only at hSw
     go_simp
     try with_reducible rfl
    try simp only [Act.put,List.setIfInBounds_toArray,List.set_cons_zero,List.set_cons_succ]
    refine wpAnyH_take (i:=8) (oi:=⟨some 93,.extract (.tmp 85) 0,30,"law.go:128",#[⟨7,.data⟩],none⟩) (v:=?_) rfl (by as_aux_lemma => kernel_rfl) (by as_aux_lemma => kernel_rfl) (by as_aux_lemma => kernel_rfl) (fun _ _ _ h => h) (Or.inl ⟨by rfl,?_⟩) (by assumption) ?_
    rotate_left
    ·intro w' hSw
     try dsimp only at hSw
     go_simp
     try with_reducible rfl
    try simp only [Act.put,List.setIfInBounds_toArray,List.set_cons_zero,List.set_cons_succ]
    refine wpAnyH_take (i:=9) (oi:=⟨some 94,.extract (.tmp 85) 1,4,"law.go:128",#[⟨7,.data⟩,⟨11,.gcOnly .lateStores⟩],none⟩) (v:=?_) rfl (by as_aux_lemma => kernel_rfl) (by as_aux_lemma => kernel_rfl) (by as_aux_lemma => kernel_rfl) (fun _ _ _ h => h) (Or.inl ⟨by rfl,?_⟩) (by assumption) ?_
    rotate_left
    ·intro w' hSw
     try dsimp only at hSw
     go_simp
     try with_reducible rfl
    try simp only [Act.put,List.setIfInBounds_toArray,List.set_cons_zero,List.set_cons_succ]
    refine wpAnyH_ready (rs:=[10]) (by as_aux_lemma => kernel_rfl) (by simp) ?_
    refine AllReadyH.cons (o:=⟨some 11,.alloc 30,0,"law.go:128",#[],none⟩) rfl (fun Kx hK => ?_) AllReadyH.nil
    go_simp
    refine hK.out _ _ ?_ (fun hHeld2 => ?_)
    ·exact heldB_up (below2Z K10002.out (bl_newZ _ _)) D0.out
    clear hK Kx hHeld
    have hHeld:=hHeld2
    clear hHeld2
    try simp only [Act.put,List.setIfInBounds_toArray,List.set_cons_zero,List.set_cons_succ]
    have bz10003:=bl_newZ z10002 (.cells #[.int .i64 0,.int .i64 0,.int .i64 0,.string ⟨#[]⟩] 30)
    have K10003:=hD (below2Z K10002.out bz10003)
    have D10003:=hD (heldB_up K10003.out D0.out)
    have nz10003:=hD ((MapKept.heap_alloc z10002 (.cells #[.int .i64 0,.int .i64 0,.int .i64 0,.string ⟨#[]⟩] 30)).1)
    have hB10003:w14.heap.size≤z10002.heap.size:=(K10002.out).size
    replace A1:=hD (Tab.later A1.out bz10003)
    clear bz10003
    generalize z10002.alloc (.cells #[.int .i64 0,.int .i64 0,.int .i64 0,.string ⟨#[]⟩] 30)=z10003 at K10003 D10003 nz10003 A1 hHeld ⊢
    generalize z10002.heap.size=B10003 at nz10003 hB10003  ⊢
    obtain⟨⟨r0,r1,r2,r3⟩,⟨g0,g1,g2,g3⟩⟩:=res4_cells (show Res4 z10003 B10003 from nz10003.out)
    refine wpAnyH_ready (rs:=[11]) (by as_aux_lemma => kernel_rfl) (by simp) ?_
    refine AllReadyH.cons (o:=⟨none,.store 30 (.tmp 11) (.tmp 93),0,"law.go:128",#[⟨10,.data⟩,⟨8,.data⟩,⟨6,.chain⟩,⟨0,.phase⟩,⟨1,.phase⟩,⟨2,.phase⟩,⟨3,.phase⟩,⟨4,.phase⟩,⟨5,.phase⟩,⟨6,.phase⟩,⟨7,.phase⟩,⟨8,.phase⟩,⟨9,.textOnly .lateStores⟩,⟨10,.phase⟩],none⟩) rfl (fun Kx hK => ?_) AllReadyH.nil
    go_simp
    clear r0 r1 r2 r3 g0 g1 g2 g3
    obtain⟨y0,y1,y2,y3⟩:=set4V (y0:=.int .i64 va) (y1:=.int .i64 vb) (y2:=.int .i64 vc) (y3:=.string ⟨vs.toArray⟩) nz10003.out
    have KE:=hD (((((K10003.out).setCell (p:=⟨B10003,0,none⟩) hB10003 (.int .i64 va)).setCell (p:=⟨B10003,1,none⟩) hB10003 (.int .i64 vb)).setCell (p:=⟨B10003,2,none⟩) hB10003 (.int .i64 vc)).setCell (p:=⟨B10003,3,none⟩) hB10003 (.string ⟨vs.toArray⟩))
    refine hK.out _ _ ?_ (fun hHeld2 => ?_)
    ·exact heldB_up KE.out D0.out
    clear hK Kx hHeld
    have hHeld:=hHeld2
    clear hHeld2
    refine wpAnyH_take (i:=12) (oi:=⟨some 12,.assign (.tmp 94),4,"law.go:128",#[⟨9,.data⟩,⟨11,.chain⟩,⟨0,.phase⟩,⟨1,.phase⟩,⟨2,.phase⟩,⟨3,.phase⟩,⟨4,.phase⟩,⟨5,.phase⟩,⟨6,.phase⟩,⟨7,.phase⟩,⟨8,.phase⟩,⟨9,.phase⟩,⟨10,.phase⟩,⟨11,.phase⟩],none⟩) (v:=?_) rfl (by as_aux_lemma => kernel_rfl) (by as_aux_lemma => kernel_rfl) (by as_aux_lemma => kernel_rfl) (fun _ _ _ h => h) (Or.inl ⟨by rfl,?_⟩) (by assumption) ?_
    rotate_left
    ·intro w' hSw
     try dsimp only at hSw
     go_simp
     try with_reducible rfl
    try simp only [Act.put,List.setIfInBounds_toArray,List.set_cons_zero,List.set_cons_succ]
    refine wpAnyH_done (by kernel_rfl) ?_ _
    go_wp2_with fail
    go_meet
    exact⟨B10003,rfl,rfl,hD (cellsAt_four y0 y1 y2 y3),KE⟩
   ·go_simp
    refine hK.out _ _ ?_ (fun hHeld2 => ?_)
    ·exact heldB_up (below2Z K10001.out (bl_newZ _ _)) D0.out
    clear hK Kx hHeld
    have hHeld:=hHeld2
    clear hHeld2
    try simp only [Act.put,List.setIfInBounds_toArray,List.set_cons_zero,List.set_cons_succ]
    have bz10005:=bl_newZ z10001 (.cells #[.int .i64 0,.int .i64 0,.int .i64 0,.string ⟨#[]⟩] 30)
    have K10005:=hD (below2Z K10001.out bz10005)
    have D10005:=hD (heldB_up K10005.out D0.out)
    have nz10005:=hD ((MapKept.heap_alloc z10001 (.cells #[.int .i64 0,.int .i64 0,.int .i64 0,.string ⟨#[]⟩] 30)).1)
    have hB10005:w14.heap.size≤z10001.heap.size:=(K10001.out).size
    replace A1:=hD (Tab.later A1.out bz10005)
    clear bz10005
    generalize z10001.alloc (.cells #[.int .i64 0,.int .i64 0,.int .i64 0,.string ⟨#[]⟩] 30)=z10005 at K10005 D10005 nz10005 A1 hHeld ⊢
    generalize z10001.heap.size=B10005 at nz10005 hB10005  ⊢
    refine wpAnyH_ready (rs:=[6]) (by as_aux_lemma => kernel_rfl) (by simp) ?_
    refine AllReadyH.cons (o:=⟨some 92,.call { callee:=.value (.func 28),args:=#[.tmp 89,.tmp 91],argTypes:=#[34,9] },31,"law.go:128",#[⟨3,.data⟩,⟨5,.data⟩,⟨3,.chain⟩],none⟩) rfl (fun Kx hK => ?_) AllReadyH.nil
    go_simp
    refine (diget_eqV A1.out c HG).mono ?_
    rintro e z10006 ⟨rfl,bz10006⟩
    have K10006:=hD (below2Z K10005.out bz10006)
    have D10006:=hD (heldB_up K10006.out D0.out)
    replace A1:=hD (Tab.later A1.out bz10006)
    replace nz10005:=hD (((bz10006).block _ (Array.getElem?_eq_some_iff.1 (nz10005.out)).1).trans (nz10005.out))
    clear bz10006
    go_wp2_with fail
    refine hK.out _ _ ?_ (fun hHeld2 => ?_)
    ·exact D10006.out
    clear hK Kx hHeld
    have hHeld:=hHeld2
    clear hHeld2
    try simp only [Act.put,List.setIfInBounds_toArray,List.set_cons_zero,List.set_cons_succ]
    refine wpAnyH_take (i:=7) (oi:=⟨some 85,.move (.tmp 92),31,"law.go:128",#[⟨6,.data⟩],none⟩) (v:=?_) rfl (by as_aux_lemma => kernel_rfl) (by as_aux_lemma => kernel_rfl) (by as_aux_lemma => kernel_rfl) (fun _ _ _ h => h) (Or.inl ⟨by rfl,?_⟩) (by assumption) ?_
    rotate_left
    ·intro w' hSw
     try dsimp only at hSw
     go_simp
     try with_reducible rfl
    try simp only [Act.put,List.setIfInBounds_toArray,List.set_cons_zero,List.set_cons_succ]
    refine wpAnyH_take (i:=8) (oi:=⟨some 93,.extract (.tmp 85) 0,30,"law.go:128",#[⟨7,.data⟩],none⟩) (v:=?_) rfl (by as_aux_lemma => kernel_rfl) (by as_aux_lemma => kernel_rfl) (by as_aux_lemma => kernel_rfl) (fun _ _ _ h => h) (Or.inl ⟨by rfl,?_⟩) (by assumption) ?_
    rotate_left
    ·intro w' hSw
     try dsimp only at hSw
     go_simp
     try with_reducible rfl
    try simp only [Act.put,List.setIfInBounds_toArray,List.set_cons_zero,List.set_cons_succ]
    refine wpAnyH_take (i:=9) (oi:=⟨some 94,.extract (.tmp 85) 1,4,"law.go:128",#[⟨7,.data⟩,⟨11,.gcOnly .lateStores⟩],none⟩) (v:=?_) rfl (by as_aux_lemma => kernel_rfl) (by as_aux_lemma => kernel_rfl) (by as_aux_lemma => kernel_rfl) (fun _ _ _ h => h) (Or.inl ⟨by rfl,?_⟩) (by assumption) ?_
    rotate_left
    ·intro w' hSw
     try dsimp only at hSw
     go_simp
     try with_reducible rfl
    try simp only [Act.put,List.setIfInBounds_toArray,List.set_cons_zero,List.set_cons_succ]
    obtain⟨⟨r0,r1,r2,r3⟩,⟨g0,g1,g2,g3⟩⟩:=res4_cells (show Res4 z10006 B10005 from nz10005.out)
    refine wpAnyH_ready (rs:=[11]) (by as_aux_lemma => kernel_rfl) (by simp) ?_
    refine AllReadyH.cons (o:=⟨none,.store 30 (.tmp 11) (.tmp 93),0,"law.go:128",#[⟨10,.data⟩,⟨8,.data⟩,⟨6,.chain⟩,⟨0,.phase⟩,⟨1,.phase⟩,⟨2,.phase⟩,⟨3,.phase⟩,⟨4,.phase⟩,⟨5,.phase⟩,⟨6,.phase⟩,⟨7,.phase⟩,⟨8,.phase⟩,⟨9,.textOnly .lateStores⟩,⟨10,.phase⟩],none⟩) rfl (fun Kx hK => ?_) AllReadyH.nil
    go_simp
    clear r0 r1 r2 r3 g0 g1 g2 g3
    obtain⟨y0,y1,y2,y3⟩:=set4V (y0:=.int .i64 va) (y1:=.int .i64 vb) (y2:=.int .i64 vc) (y3:=.string ⟨vs.toArray⟩) nz10005.out
    have KE:=hD (((((K10006.out).setCell (p:=⟨B10005,0,none⟩) hB10005 (.int .i64 va)).setCell (p:=⟨B10005,1,none⟩) hB10005 (.int .i64 vb)).setCell (p:=⟨B10005,2,none⟩) hB10005 (.int .i64 vc)).setCell (p:=⟨B10005,3,none⟩) hB10005 (.string ⟨vs.toArray⟩))
    refine hK.out _ _ ?_ (fun hHeld2 => ?_)
    ·exact heldB_up KE.out D0.out
    clear hK Kx hHeld
    have hHeld:=hHeld2
    clear hHeld2
    refine wpAnyH_take (i:=12) (oi:=⟨some 12,.assign (.tmp 94),4,"law.go:128",#[⟨9,.data⟩,⟨11,.chain⟩,⟨0,.phase⟩,⟨1,.phase⟩,⟨2,.phase⟩,⟨3,.phase⟩,⟨4,.phase⟩,⟨5,.phase⟩,⟨6,.phase⟩,⟨7,.phase⟩,⟨8,.phase⟩,⟨9,.phase⟩,⟨10,.phase⟩,⟨11,.phase⟩],none⟩) (v:=?_) rfl (by as_aux_lemma => kernel_rfl) (by as_aux_lemma => kernel_rfl) (by as_aux_lemma => kernel_rfl) (fun _ _ _ h => h) (Or.inl ⟨by rfl,?_⟩) (by assumption) ?_
    rotate_left
    ·intro w' hSw
     try dsimp only at hSw
     go_simp
     try with_reducible rfl
    try simp only [Act.put,List.setIfInBounds_toArray,List.set_cons_zero,List.set_cons_succ]
    refine wpAnyH_done (by kernel_rfl) ?_ _
    go_wp2_with fail
    go_meet
    exact⟨B10005,rfl,rfl,hD (cellsAt_four y0 y1 y2 y3),KE⟩
  ·go_simp
   refine hK.out _ _ ?_ (fun hHeld2 => ?_)
   ·exact heldB_up (below2Z K0.out (bl_newZ _ _)) D0.out
   clear hK Kx hHeld
   have hHeld:=hHeld2
   clear hHeld2
   try simp only [Act.put,List.setIfInBounds_toArray,List.set_cons_zero,List.set_cons_succ]
   have bz10008:=bl_newZ z0 (.cells #[.int .i64 0,.int .i64 0,.int .i64 0,.string ⟨#[]⟩] 30)
   have K10008:=hD (below2Z K0.out bz10008)
   have D10008:=hD (heldB_up K10008.out D0.out)
   have nz10008:=hD ((MapKept.heap_alloc z0 (.cells #[.int .i64 0,.int .i64 0,.int .i64 0,.string ⟨#[]⟩] 30)).1)
   have hB10008:w14.heap.size≤z0.heap.size:=(K0.out).size
   clear bz10008
   generalize z0.alloc (.cells #[.int .i64 0,.int .i64 0,.int .i64 0,.string ⟨#[]⟩] 30)=z10008 at K10008 D10008 nz10008 hHeld ⊢
   generalize z0.heap.size=B10008 at nz10008 hB10008  ⊢
   refine wpAnyH_ready (rs:=[3]) (by as_aux_lemma => kernel_rfl) (by simp) ?_
   refine AllReadyH.cons (o:=⟨some 89,.call { callee:=.value (.func 18),args:=#[.tmp 86,.tmp 88],argTypes:=#[25,9] },34,"law.go:128",#[⟨0,.data⟩,⟨2,.data⟩],none⟩) rfl (fun Kx hK => ?_) AllReadyH.nil
   go_simp
   refine (vwof_any (K.out.later K10008.out) KOK.out hle u).mono ?_
   rintro e z10009 ⟨vA1,rfl,hA1,bz10009⟩
   have K10009:=hD (below2Z K10008.out bz10009)
   have D10009:=hD (heldB_up K10009.out D0.out)
   replace nz10008:=hD (((bz10009).block _ (Array.getElem?_eq_some_iff.1 (nz10008.out)).1).trans (nz10008.out))
   have A1:=hD hA1.tab
   clear hA1
   clear bz10009
   go_wp2_with fail
   refine hK.out _ _ ?_ (fun hHeld2 => ?_)
   ·exact D10009.out
   clear hK Kx hHeld
   have hHeld:=hHeld2
   clear hHeld2
   try simp only [Act.put,List.setIfInBounds_toArray,List.set_cons_zero,List.set_cons_succ]
   refine wpAnyH_ready (rs:=[6]) (by as_aux_lemma => kernel_rfl) (by simp) ?_
   refine AllReadyH.cons (o:=⟨some 92,.call { callee:=.value (.func 28),args:=#[.tmp 89,.tmp 91],argTypes:=#[34,9] },31,"law.go:128",#[⟨3,.data⟩,⟨5,.data⟩,⟨3,.chain⟩],none⟩) rfl (fun Kx hK => ?_) AllReadyH.nil
   go_simp
   refine (diget_eqV A1.out c HG).mono ?_
   rintro e z10010 ⟨rfl,bz10010⟩
   have K10010:=hD (below2Z K10009.out bz10010)
   have D10010:=hD (heldB_up K10010.out D0.out)
   replace nz10008:=hD (((bz10010).block _ (Array.getElem?_eq_some_iff.1 (nz10008.out)).1).trans (nz10008.out))
   replace A1:=hD (Tab.later A1.out bz10010)
   clear bz10010
   go_wp2_with fail
   refine hK.out _ _ ?_ (fun hHeld2 => ?_)
   ·exact D10010.out
   clear hK Kx hHeld
   have hHeld:=hHeld2
   clear hHeld2
   try simp only [Act.put,List.setIfInBounds_toArray,List.set_cons_zero,List.set_cons_succ]
   refine wpAnyH_take (i:=7) (oi:=⟨some 85,.move (.tmp 92),31,"law.go:128",#[⟨6,.data⟩],none⟩) (v:=?_) rfl (by as_aux_lemma => kernel_rfl) (by as_aux_lemma => kernel_rfl) (by as_aux_lemma => kernel_rfl) (fun _ _ _ h => h) (Or.inl ⟨by rfl,?_⟩) (by assumption) ?_
   rotate_left
   ·intro w' hSw
    try dsimp only at hSw
    go_simp
    try with_reducible rfl
   try simp only [Act.put,List.setIfInBounds_toArray,List.set_cons_zero,List.set_cons_succ]
   refine wpAnyH_take (i:=8) (oi:=⟨some 93,.extract (.tmp 85) 0,30,"law.go:128",#[⟨7,.data⟩],none⟩) (v:=?_) rfl (by as_aux_lemma => kernel_rfl) (by as_aux_lemma => kernel_rfl) (by as_aux_lemma => kernel_rfl) (fun _ _ _ h => h) (Or.inl ⟨by rfl,?_⟩) (by assumption) ?_
   rotate_left
   ·intro w' hSw
    try dsimp only at hSw
    go_simp
    try with_reducible rfl
   try simp only [Act.put,List.setIfInBounds_toArray,List.set_cons_zero,List.set_cons_succ]
   refine wpAnyH_take (i:=9) (oi:=⟨some 94,.extract (.tmp 85) 1,4,"law.go:128",#[⟨7,.data⟩,⟨11,.gcOnly .lateStores⟩],none⟩) (v:=?_) rfl (by as_aux_lemma => kernel_rfl) (by as_aux_lemma => kernel_rfl) (by as_aux_lemma => kernel_rfl) (fun _ _ _ h => h) (Or.inl ⟨by rfl,?_⟩) (by assumption) ?_
   rotate_left
   ·intro w' hSw
    try dsimp only at hSw
    go_simp
    try with_reducible rfl
   try simp only [Act.put,List.setIfInBounds_toArray,List.set_cons_zero,List.set_cons_succ]
   obtain⟨⟨r0,r1,r2,r3⟩,⟨g0,g1,g2,g3⟩⟩:=res4_cells (show Res4 z10010 B10008 from nz10008.out)
   refine wpAnyH_ready (rs:=[11]) (by as_aux_lemma => kernel_rfl) (by simp) ?_
   refine AllReadyH.cons (o:=⟨none,.store 30 (.tmp 11) (.tmp 93),0,"law.go:128",#[⟨10,.data⟩,⟨8,.data⟩,⟨6,.chain⟩,⟨0,.phase⟩,⟨1,.phase⟩,⟨2,.phase⟩,⟨3,.phase⟩,⟨4,.phase⟩,⟨5,.phase⟩,⟨6,.phase⟩,⟨7,.phase⟩,⟨8,.phase⟩,⟨9,.textOnly .lateStores⟩,⟨10,.phase⟩],none⟩) rfl (fun Kx hK => ?_) AllReadyH.nil
   go_simp
   clear r0 r1 r2 r3 g0 g1 g2 g3
   obtain⟨y0,y1,y2,y3⟩:=set4V (y0:=.int .i64 va) (y1:=.int .i64 vb) (y2:=.int .i64 vc) (y3:=.string ⟨vs.toArray⟩) nz10008.out
   have KE:=hD (((((K10010.out).setCell (p:=⟨B10008,0,none⟩) hB10008 (.int .i64 va)).setCell (p:=⟨B10008,1,none⟩) hB10008 (.int .i64 vb)).setCell (p:=⟨B10008,2,none⟩) hB10008 (.int .i64 vc)).setCell (p:=⟨B10008,3,none⟩) hB10008 (.string ⟨vs.toArray⟩))
   refine hK.out _ _ ?_ (fun hHeld2 => ?_)
   ·exact heldB_up KE.out D0.out
   clear hK Kx hHeld
   have hHeld:=hHeld2
   clear hHeld2
   refine wpAnyH_take (i:=12) (oi:=⟨some 12,.assign (.tmp 94),4,"law.go:128",#[⟨9,.data⟩,⟨11,.chain⟩,⟨0,.phase⟩,⟨1,.phase⟩,⟨2,.phase⟩,⟨3,.phase⟩,⟨4,.phase⟩,⟨5,.phase⟩,⟨6,.phase⟩,⟨7,.phase⟩,⟨8,.phase⟩,⟨9,.phase⟩,⟨10,.phase⟩,⟨11,.phase⟩],none⟩) (v:=?_) rfl (by as_aux_lemma => kernel_rfl) (by as_aux_lemma => kernel_rfl) (by as_aux_lemma => kernel_rfl) (fun _ _ _ h => h) (Or.inl ⟨by rfl,?_⟩) (by assumption) ?_
   rotate_left
   ·intro w' hSw
    try dsimp only at hSw
    go_simp
    try with_reducible rfl
   try simp only [Act.put,List.setIfInBounds_toArray,List.set_cons_zero,List.set_cons_succ]
   refine wpAnyH_done (by kernel_rfl) ?_ _
   go_wp2_with fail
   go_meet
   exact⟨B10008,rfl,rfl,hD (cellsAt_four y0 y1 y2 y3),KE⟩
 case rest =>
  obtain⟨BKV,rfl,rfl,KV,KB15⟩:=hcut
  obtain⟨w15,hw15⟩ : ∃ X,X=wc:=⟨_,rfl⟩
  subst hw15
  replace SB:=hD (upQ SB.out KB15.out)
  replace EB:=hD (upQ EB.out KB15.out)
  replace TB:=hD (upQ TB.out KB15.out)
  replace H:=hD (H.out.later KB15.out)
  replace K:=hD (K.out.later KB15.out)
  replace HB:=hD (below2Z HB.out KB15.out)
  clear KB15
  obtain⟨⟨TBc0,TBc1⟩,⟨TBf0,TBf1⟩⟩:=blk2 TB.out
  obtain⟨⟨EBc0,EBc1,EBc2,EBc3,EBc4,EBc5,EBc6,EBc7⟩,⟨EBf0,EBf1,EBf2,EBf3,EBf4,EBf5,EBf6,EBf7⟩⟩:=blk8 EB.out
  go_wp2_with fail
  clear TBc0 TBc1 TBf0 TBf1 EBc0 EBc1 EBc2 EBc3 EBc4 EBc5 EBc6 EBc7 EBf0 EBf1 EBf2 EBf3 EBf4 EBf5 EBf6 EBf7
  refine (vwwat_any K.out KOK.out hle c).mono ?_
  rintro e w16 ⟨vA2,rfl,hA2,b16⟩
  replace SB:=hD (upQ SB.out b16)
  replace EB:=hD (upQ EB.out b16)
  replace TB:=hD (upQ TB.out b16)
  replace H:=hD (H.out.later b16)
  replace K:=hD (K.out.later b16)
  replace KV:=hD (CellsAt.later KV.out b16)
  replace HB:=hD (below2Z HB.out b16)
  obtain⟨a2,c2,rfl⟩:=texts_shape hA2 NW.out
  have A2:=hD hA2
  clear hA2
  clear b16
  clear SB
  go_wp2_with fail
  go_loopw [14] (fun i wr => ∃ k:Nat,k≤nw∧i=.int .i64 k∧Hid (Below w16.heap.size w16 wr)) (fun i _ => nw - (intOf i).toNat)
  case atStart => exact⟨0,by omega,rfl,Below.refl _ _⟩
  case round =>
   obtain⟨k,hk,rfl,HN⟩:=hrel
   by_cases hlt:k < nw
   ·obtain⟨b,off,rfl,hcc⟩:=A2.out.cell HN.out k (by rw [NW.out]; exact hlt)
    have hmem:(vwWat t c).getD k [] ∈ vwWat t c:=by rw [List.getD_eq_getElem?_getD,List.getElem?_eq_getElem (by rw [NW.out]; exact hlt)]; exact List.getElem_mem _
    obtain⟨z,hz⟩ : ∃ z,(vwWat t c).getD k []=z:=⟨_,rfl⟩
    rw [hz] at hcc hmem
    have hzr:=HR.out z hmem
    have EBW:=hD (upQ EB.out HN.out)
    have hkn:(0:Int)≤(k:Int):=by omega
    have hki:(k:Int) < (nw:Int):=by omega
    have B5:=hD HN.out.drew
    clear hz hmem
    obtain⟨⟨e0,e1,e2_,e3,e4,e5,e6,e7⟩,⟨g0,g1,g2,g3,g4,g5,g6,g7⟩⟩:=blk8 EBW.out
    have hbz:(z == u)=false:=by rw [beq_eq_false_iff_ne]; intro e; have:=hzr e; cases this
    clear hzr
    go_wp2_with fail
    go_region
    all_goals go_wp2_with fail
    all_goals go_roundw
    case rel => exact⟨k+1,by omega,by go_num,B5⟩
    case measure => simp [intOf]; omega
   ·obtain rfl:k=nw:=by omega
    replace HB:=hD (below2Z HB.out HN.out)
    go_wp2_with fail
    refine (live15 _).mono ?_
    rintro e w17 ⟨rfl,b17⟩
    replace HB:=hD (below2Z HB.out b17)
    clear b17
    go_wp2_with fail
    go_ret
    exact⟨rfl,HB.out⟩

theorem vbl_k4 {w:World} {x y:Value} {s:Sta} (h:StAt w x y s) (u c es:List UInt8) (id ea eb ed:Int) (f1:fewSta s=true) (f2:stMay s=true) (f3:shortEv ⟨4,u,c,id,⟨ea,eb,ed,es⟩⟩=true) {t:Sta} (hap:stApply s ⟨4,u,c,id,⟨ea,eb,ed,es⟩⟩=(t,0)) :
  Calls Tryz.prog 7 #[.agg #[x,y],.agg #[.int .i64 4,.string ⟨u.toArray⟩,.string ⟨c.toArray⟩,.int .i64 id,.int .i64 ea,.int .i64 eb,.int .i64 ed,.string ⟨es.toArray⟩]] w fun e w' => e=.returned (.bool true)∧Below w.heap.size w w':=by
 have b0:=bl_newZ w (.cells #[x,y] 25)
 have b1:=bl_newZ (w.alloc (.cells #[x,y] 25)) (.cells #[.int .i64 4,.string ⟨u.toArray⟩,.string ⟨c.toArray⟩,.int .i64 id,.int .i64 ea,.int .i64 eb,.int .i64 ed,.string ⟨es.toArray⟩] 50)
 have HB:=hD (below2Z b0 b1)
 have H:=hD ((h.later b0).later b1)
 have SB:=newQ w (.cells #[x,y] 25)
 replace SB:=upQ SB b1
 replace SB:=hD SB
 have EB:=newQ (w.alloc (.cells #[x,y] 25)) (.cells #[.int .i64 4,.string ⟨u.toArray⟩,.string ⟨c.toArray⟩,.int .i64 id,.int .i64 ea,.int .i64 eb,.int .i64 ed,.string ⟨es.toArray⟩] 50)
 rw [World.size_alloc] at EB
 replace EB:=hD EB
 clear b0 b1
 clear h
 obtain⟨HOK,he80,hs50⟩:=fewSta_V f1
 replace HOK:=hD HOK
 obtain⟨hu,hc,hs⟩:=shortEv_get f3
 simp only at hu hc hs
 have F1:=hD f1
 have F2:=hD f2
 have F3:=hD f3
 clear f1 f2 f3
 have AP:=hD hap
 have hMt:=stApply_may hap
 obtain⟨hun1,hun2⟩:=vw_unsees hap
 have hle:t.e.length≤4294967:=by have:=stLen_next hap; omega
 clear hap
 obtain⟨⟨⟨va,vb,vc,vs⟩,r⟩,hv⟩ : ∃ p,vwVal t u c=p:=⟨_,rfl⟩
 obtain⟨⟨⟨ya,yb,yc,ys⟩,r2⟩,hv2⟩ : ∃ p,vwVal t c u=p:=⟨_,rfl⟩
 rw [hv] at hun1
 rw [hv2] at hun2
 simp only at hun1 hun2
 obtain rfl:r2=false:=by first | exact hun2 (.inl rfl) | exact hun2 (.inr rfl) | simpa using hun2
 have HV:Hid (vwValue t u c=(⟨va,vb,vc,vs⟩,r)):=hD (by rw [vwValue_is hMt]; exact hv)
 have HV2:Hid (vwValue t c u=(⟨ya,yb,yc,ys⟩,false)):=hD (by rw [vwValue_is hMt]; exact hv2)
 have HG:Hid (diGet (vwOf t u) c=(⟨va,vb,vc,vs⟩,r)):=hD (by rw [vwOf_get hMt]; exact hv)
 have HR:Hid (∀ z ∈ vwWat t c,z=u→r=true):=hD (fun z hz e => by subst e; have:=(vwWat_mem hMt).1 hz; rw [hv] at this; exact this)
 have KOK:=hD (stOK_may hMt)
 obtain⟨nw,hnw⟩ : ∃ n,(vwWat t c).length=n:=⟨_,rfl⟩
 have NW:=hD hnw
 have hnw80:nw≤4294967:=by rw [← hnw]; exact Nat.le_trans (vwWat_le t c) hle
 clear hMt hv hv2 hnw hun1 hun2
 have e2:=bool_eql r
 obtain⟨⟨SBc0,SBc1⟩,⟨SBf0,SBf1⟩⟩:=blk2 SB.out
 obtain⟨⟨EBc0,EBc1,EBc2,EBc3,EBc4,EBc5,EBc6,EBc7⟩,⟨EBf0,EBf1,EBf2,EBf3,EBf4,EBf5,EBf6,EBf7⟩⟩:=blk8 EB.out
 go_enter Tryz.func7,Tryz.ntmps7
 go_wp2_with fail
 clear SBc0 SBc1 SBf0 SBf1 EBc0 EBc1 EBc2 EBc3 EBc4 EBc5 EBc6 EBc7 EBf0 EBf1 EBf2 EBf3 EBf4 EBf5 EBf6 EBf7
 refine (fewst_any H.out F1).mono ?_
 rintro e w3 ⟨rfl,b3⟩
 replace SB:=hD (upQ SB.out b3)
 replace EB:=hD (upQ EB.out b3)
 replace H:=hD (H.out.later b3)
 replace HB:=hD (below2Z HB.out b3)
 clear b3
 obtain⟨⟨SBc0,SBc1⟩,⟨SBf0,SBf1⟩⟩:=blk2 SB.out
 obtain⟨⟨EBc0,EBc1,EBc2,EBc3,EBc4,EBc5,EBc6,EBc7⟩,⟨EBf0,EBf1,EBf2,EBf3,EBf4,EBf5,EBf6,EBf7⟩⟩:=blk8 EB.out
 go_wp2_with fail
 clear SBc0 SBc1 SBf0 SBf1 EBc0 EBc1 EBc2 EBc3 EBc4 EBc5 EBc6 EBc7 EBf0 EBf1 EBf2 EBf3 EBf4 EBf5 EBf6 EBf7
 refine (rstmay_any H.out HOK.out.1 (by omega) HOK.out.2 F2).mono ?_
 rintro e w4 ⟨rfl,b4⟩
 replace SB:=hD (upQ SB.out b4)
 replace EB:=hD (upQ EB.out b4)
 replace H:=hD (H.out.later b4)
 replace HB:=hD (below2Z HB.out b4)
 clear b4
 obtain⟨⟨SBc0,SBc1⟩,⟨SBf0,SBf1⟩⟩:=blk2 SB.out
 obtain⟨⟨EBc0,EBc1,EBc2,EBc3,EBc4,EBc5,EBc6,EBc7⟩,⟨EBf0,EBf1,EBf2,EBf3,EBf4,EBf5,EBf6,EBf7⟩⟩:=blk8 EB.out
 go_wp2_with fail
 clear SBc0 SBc1 SBf0 SBf1 EBc0 EBc1 EBc2 EBc3 EBc4 EBc5 EBc6 EBc7 EBf0 EBf1 EBf2 EBf3 EBf4 EBf5 EBf6 EBf7
 refine (short14_any 4 u c es id ea eb ed F3 _).mono ?_
 rintro e w5 ⟨rfl,b5⟩
 replace SB:=hD (upQ SB.out b5)
 replace EB:=hD (upQ EB.out b5)
 replace H:=hD (H.out.later b5)
 replace HB:=hD (below2Z HB.out b5)
 clear b5
 obtain⟨⟨SBc0,SBc1⟩,⟨SBf0,SBf1⟩⟩:=blk2 SB.out
 obtain⟨⟨EBc0,EBc1,EBc2,EBc3,EBc4,EBc5,EBc6,EBc7⟩,⟨EBf0,EBf1,EBf2,EBf3,EBf4,EBf5,EBf6,EBf7⟩⟩:=blk8 EB.out
 go_wp2_with fail
 clear SBc0 SBc1 SBf0 SBf1 EBc0 EBc1 EBc2 EBc3 EBc4 EBc5 EBc6 EBc7 EBf0 EBf1 EBf2 EBf3 EBf4 EBf5 EBf6 EBf7
 refine (stdo_any H.out HOK.out.1 (by omega) HOK.out.2 ⟨4,u,c,id,⟨ea,eb,ed,es⟩⟩ (by simp only; omega) (by simp only; omega) (by simp only; omega) AP.out).mono ?_
 rintro e w6 ⟨p,q,rfl,hk1,b6⟩
 replace SB:=hD (upQ SB.out b6)
 replace EB:=hD (upQ EB.out b6)
 replace H:=hD (H.out.later b6)
 replace HB:=hD (below2Z HB.out b6)
 obtain⟨pa,pc,rfl⟩:=ents_shape hk1.1 rfl
 obtain⟨qa,qc,rfl⟩:=rdS_shape hk1.2 rfl
 have K:=hD hk1
 clear hk1
 clear b6
 have b7:=bl_newZ w6 (.cells #[.slice pa t.e.length pc,.slice qa t.s.length qc] 25)
 have TB:=newQ w6 (.cells #[.slice pa t.e.length pc,.slice qa t.s.length qc] 25)
 have hTB:w.heap.size≤w6.heap.size:=HB.out.size
 replace SB:=hD (upQ SB.out b7)
 replace EB:=hD (upQ EB.out b7)
 replace H:=hD (H.out.later b7)
 replace K:=hD (K.out.later b7)
 replace HB:=hD (below2Z HB.out b7)
 clear b7
 replace TB:=hD TB
 obtain⟨⟨SBc0,SBc1⟩,⟨SBf0,SBf1⟩⟩:=blk2 SB.out
 obtain⟨⟨TBc0,TBc1⟩,⟨TBf0,TBf1⟩⟩:=blk2 TB.out
 obtain⟨⟨EBc0,EBc1,EBc2,EBc3,EBc4,EBc5,EBc6,EBc7⟩,⟨EBf0,EBf1,EBf2,EBf3,EBf4,EBf5,EBf6,EBf7⟩⟩:=blk8 EB.out
 go_wp2_with fail
 clear SBc0 SBc1 SBf0 SBf1 TBc0 TBc1 TBf0 TBf1 EBc0 EBc1 EBc2 EBc3 EBc4 EBc5 EBc6 EBc7 EBf0 EBf1 EBf2 EBf3 EBf4 EBf5 EBf6 EBf7
 generalize w6.alloc (.cells #[.slice pa t.e.length pc,.slice qa t.s.length qc] 25)=w8 at SB EB TB H K HB ⊢
 refine (vwvalue_any K.out KOK.out u c HV).mono ?_
 rintro e w9 ⟨rfl,b9⟩
 replace SB:=hD (upQ SB.out b9)
 replace EB:=hD (upQ EB.out b9)
 replace TB:=hD (upQ TB.out b9)
 replace H:=hD (H.out.later b9)
 replace K:=hD (K.out.later b9)
 replace HB:=hD (below2Z HB.out b9)
 clear b9
 have b10:=bl_newZ w9 (.cells #[.int .i64 va,.int .i64 vb,.int .i64 vc,.string ⟨vs.toArray⟩] 30)
 have VA:=newQ w9 (.cells #[.int .i64 va,.int .i64 vb,.int .i64 vc,.string ⟨vs.toArray⟩] 30)
 have hVA:w.heap.size≤w9.heap.size:=HB.out.size
 replace SB:=hD (upQ SB.out b10)
 replace EB:=hD (upQ EB.out b10)
 replace TB:=hD (upQ TB.out b10)
 replace H:=hD (H.out.later b10)
 replace K:=hD (K.out.later b10)
 replace HB:=hD (below2Z HB.out b10)
 clear b10
 replace VA:=hD VA
 obtain⟨⟨TBc0,TBc1⟩,⟨TBf0,TBf1⟩⟩:=blk2 TB.out
 obtain⟨⟨EBc0,EBc1,EBc2,EBc3,EBc4,EBc5,EBc6,EBc7⟩,⟨EBf0,EBf1,EBf2,EBf3,EBf4,EBf5,EBf6,EBf7⟩⟩:=blk8 EB.out
 go_wp2_with fail
 clear TBc0 TBc1 TBf0 TBf1 EBc0 EBc1 EBc2 EBc3 EBc4 EBc5 EBc6 EBc7 EBf0 EBf1 EBf2 EBf3 EBf4 EBf5 EBf6 EBf7
 generalize w9.alloc (.cells #[.int .i64 va,.int .i64 vb,.int .i64 vc,.string ⟨vs.toArray⟩] 30)=w11 at SB EB TB VA H K HB ⊢
 clear VA
 refine (vwvalue_any K.out KOK.out c u HV2).mono ?_
 rintro e w12 ⟨rfl,b12⟩
 replace SB:=hD (upQ SB.out b12)
 replace EB:=hD (upQ EB.out b12)
 replace TB:=hD (upQ TB.out b12)
 replace H:=hD (H.out.later b12)
 replace K:=hD (K.out.later b12)
 replace HB:=hD (below2Z HB.out b12)
 clear b12
 have b13:=bl_newZ w12 (.cells #[.int .i64 ya,.int .i64 yb,.int .i64 yc,.string ⟨ys.toArray⟩] 30)
 have VB:=newQ w12 (.cells #[.int .i64 ya,.int .i64 yb,.int .i64 yc,.string ⟨ys.toArray⟩] 30)
 have hVB:w.heap.size≤w12.heap.size:=HB.out.size
 replace SB:=hD (upQ SB.out b13)
 replace EB:=hD (upQ EB.out b13)
 replace TB:=hD (upQ TB.out b13)
 replace H:=hD (H.out.later b13)
 replace K:=hD (K.out.later b13)
 replace HB:=hD (below2Z HB.out b13)
 clear b13
 replace VB:=hD VB
 obtain⟨⟨EBc0,EBc1,EBc2,EBc3,EBc4,EBc5,EBc6,EBc7⟩,⟨EBf0,EBf1,EBf2,EBf3,EBf4,EBf5,EBf6,EBf7⟩⟩:=blk8 EB.out
 obtain⟨⟨TBc0,TBc1⟩,⟨TBf0,TBf1⟩⟩:=blk2 TB.out
 go_upto_region 10 with fail
 clear EBc0 EBc1 EBc2 EBc3 EBc4 EBc5 EBc6 EBc7 EBf0 EBf1 EBf2 EBf3 EBf4 EBf5 EBf6 EBf7 TBc0 TBc1 TBf0 TBf1
 generalize w12.alloc (.cells #[.int .i64 ya,.int .i64 yb,.int .i64 yc,.string ⟨ys.toArray⟩] 30)=w14 at SB EB TB VB H K HB ⊢
 clear VB
 go_cut [11,12] from 85 to 94 (fun p z wx => ∃ B,p=.pointer (some ⟨B,0,none⟩)∧z=.bool r∧Hid (CellsAt wx B 0 [.int .i64 va,.int .i64 vb,.int .i64 vc,.string ⟨vs.toArray⟩])∧Hid (Below w14.heap.size w14 wx))
 case first =>
  obtain⟨BS,hBS⟩ : ∃ BS:List (Nat × List Value),BS=[(w6.heap.size,[.slice pa t.e.length pc,.slice qa t.s.length qc]),(w.heap.size+1,[.int .i64 4,.string ⟨u.toArray⟩,.string ⟨c.toArray⟩,.int .i64 id,.int .i64 ea,.int .i64 eb,.int .i64 ed,.string ⟨es.toArray⟩])]:=⟨_,rfl⟩
  have D0:=hD (show heldB w14 BS from by rw [hBS]; exact heldB_cons (cellsAt_block TB.out) (heldB_cons (cellsAt_block EB.out) (heldB_nil _)))
  have hq0:∀ X,heldB X BS→X.cell? ⟨w6.heap.size,0,none⟩=some (.slice pa t.e.length pc):=fun X hx => heldB_get (vs:=[.slice pa t.e.length pc,.slice qa t.s.length qc]) hx (by rw [hBS]; simp) rfl
  have hq1:∀ X,heldB X BS→X.cell? ⟨w6.heap.size,1,none⟩=some (.slice qa t.s.length qc):=fun X hx => heldB_get (vs:=[.slice pa t.e.length pc,.slice qa t.s.length qc]) hx (by rw [hBS]; simp) rfl
  have hq2:∀ X,heldB X BS→X.cell? ⟨w.heap.size+1,0,none⟩=some (.int .i64 4):=fun X hx => heldB_get (vs:=[.int .i64 4,.string ⟨u.toArray⟩,.string ⟨c.toArray⟩,.int .i64 id,.int .i64 ea,.int .i64 eb,.int .i64 ed,.string ⟨es.toArray⟩]) hx (by rw [hBS]; simp) rfl
  have hq3:∀ X,heldB X BS→X.cell? ⟨w.heap.size+1,1,none⟩=some (.string ⟨u.toArray⟩):=fun X hx => heldB_get (vs:=[.int .i64 4,.string ⟨u.toArray⟩,.string ⟨c.toArray⟩,.int .i64 id,.int .i64 ea,.int .i64 eb,.int .i64 ed,.string ⟨es.toArray⟩]) hx (by rw [hBS]; simp) rfl
  have hq4:∀ X,heldB X BS→X.cell? ⟨w.heap.size+1,2,none⟩=some (.string ⟨c.toArray⟩):=fun X hx => heldB_get (vs:=[.int .i64 4,.string ⟨u.toArray⟩,.string ⟨c.toArray⟩,.int .i64 id,.int .i64 ea,.int .i64 eb,.int .i64 ed,.string ⟨es.toArray⟩]) hx (by rw [hBS]; simp) rfl
  have hq5:∀ X,heldB X BS→X.cell? ⟨w.heap.size+1,3,none⟩=some (.int .i64 id):=fun X hx => heldB_get (vs:=[.int .i64 4,.string ⟨u.toArray⟩,.string ⟨c.toArray⟩,.int .i64 id,.int .i64 ea,.int .i64 eb,.int .i64 ed,.string ⟨es.toArray⟩]) hx (by rw [hBS]; simp) rfl
  have hq6:∀ X,heldB X BS→X.cell? ⟨w.heap.size+1,4,none⟩=some (.int .i64 ea):=fun X hx => heldB_get (vs:=[.int .i64 4,.string ⟨u.toArray⟩,.string ⟨c.toArray⟩,.int .i64 id,.int .i64 ea,.int .i64 eb,.int .i64 ed,.string ⟨es.toArray⟩]) hx (by rw [hBS]; simp) rfl
  have hq7:∀ X,heldB X BS→X.cell? ⟨w.heap.size+1,5,none⟩=some (.int .i64 eb):=fun X hx => heldB_get (vs:=[.int .i64 4,.string ⟨u.toArray⟩,.string ⟨c.toArray⟩,.int .i64 id,.int .i64 ea,.int .i64 eb,.int .i64 ed,.string ⟨es.toArray⟩]) hx (by rw [hBS]; simp) rfl
  have hq8:∀ X,heldB X BS→X.cell? ⟨w.heap.size+1,6,none⟩=some (.int .i64 ed):=fun X hx => heldB_get (vs:=[.int .i64 4,.string ⟨u.toArray⟩,.string ⟨c.toArray⟩,.int .i64 id,.int .i64 ea,.int .i64 eb,.int .i64 ed,.string ⟨es.toArray⟩]) hx (by rw [hBS]; simp) rfl
  have hq9:∀ X,heldB X BS→X.cell? ⟨w.heap.size+1,7,none⟩=some (.string ⟨es.toArray⟩):=fun X hx => heldB_get (vs:=[.int .i64 4,.string ⟨u.toArray⟩,.string ⟨c.toArray⟩,.int .i64 id,.int .i64 ea,.int .i64 eb,.int .i64 ed,.string ⟨es.toArray⟩]) hx (by rw [hBS]; simp) rfl
  clear hBS
  have K0:Hid (Below w14.heap.size w14 w14.drew):=hD (Below.refl _ _).drew
  refine wp_region_held_drew (S:=(fun X => heldB X BS)) (by kernel_rfl) ?_ (fun hHeld => ?_)
  ·exact heldB_up K0.out D0.out
  generalize w14.drew=z0 at K0 hHeld ⊢
  refine wpAnyH_take (i:=0) (oi:=⟨some 86,.load 25 (.tmp 5),25,"law.go:128",#[],none⟩) (v:=?_) rfl (by as_aux_lemma => kernel_rfl) (by as_aux_lemma => kernel_rfl) (by as_aux_lemma => kernel_rfl) (fun _ _ _ h => h) (Or.inl ⟨by rfl,?_⟩) (by assumption) ?_
  rotate_left
  ·intro w' hSw
   try dsimp only at hSw
   go_simp
   try with_reducible rfl
  try simp only [Act.put,List.setIfInBounds_toArray,List.set_cons_zero,List.set_cons_succ]
  refine wpAnyH_take (i:=1) (oi:=⟨some 87,.fieldAddr 50 (.tmp 3) 1,0,"law.go:128",#[],none⟩) (v:=?_) rfl (by as_aux_lemma => kernel_rfl) (by as_aux_lemma => kernel_rfl) (by as_aux_lemma => kernel_rfl) (fun _ _ _ h => h) (Or.inl ⟨by rfl,?_⟩) (by assumption) ?_
  rotate_left
  ·intro w' hSw
   try dsimp only at hSw
   go_simp
   try with_reducible rfl
  try simp only [Act.put,List.setIfInBounds_toArray,List.set_cons_zero,List.set_cons_succ]
  refine wpAnyH_take (i:=2) (oi:=⟨some 88,.load 9 (.tmp 87),9,"law.go:128",#[⟨1,.data⟩],none⟩) (v:=?_) rfl (by as_aux_lemma => kernel_rfl) (by as_aux_lemma => kernel_rfl) (by as_aux_lemma => kernel_rfl) (fun _ _ _ h => h) (Or.inl ⟨by rfl,?_⟩) (by assumption) ?_
  rotate_left
  ·intro w' hSw
   try dsimp only at hSw
   go_simp
   try with_reducible rfl
  try simp only [Act.put,List.setIfInBounds_toArray,List.set_cons_zero,List.set_cons_succ]
  refine wpAnyH_take (i:=4) (oi:=⟨some 90,.fieldAddr 50 (.tmp 3) 2,0,"law.go:128",#[],none⟩) (v:=?_) rfl (by as_aux_lemma => kernel_rfl) (by as_aux_lemma => kernel_rfl) (by as_aux_lemma => kernel_rfl) (fun _ _ _ h => h) (Or.inl ⟨by rfl,?_⟩) (by assumption) ?_
  rotate_left
  ·intro w' hSw
   try dsimp only at hSw
   go_simp
   try with_reducible rfl
  try simp only [Act.put,List.setIfInBounds_toArray,List.set_cons_zero,List.set_cons_succ]
  refine wpAnyH_take (i:=5) (oi:=⟨some 91,.load 9 (.tmp 90),9,"law.go:128",#[⟨4,.data⟩],none⟩) (v:=?_) rfl (by as_aux_lemma => kernel_rfl) (by as_aux_lemma => kernel_rfl) (by as_aux_lemma => kernel_rfl) (fun _ _ _ h => h) (Or.inl ⟨by rfl,?_⟩) (by assumption) ?_
  rotate_left
  ·intro w' hSw
   try dsimp only at hSw
   go_simp
   try with_reducible rfl
  try simp only [Act.put,List.setIfInBounds_toArray,List.set_cons_zero,List.set_cons_succ]
  refine wpAnyH_ready (rs:=[3,10]) (by as_aux_lemma => kernel_rfl) (by simp) ?_
  refine AllReadyH.cons (o:=⟨some 89,.call { callee:=.value (.func 18),args:=#[.tmp 86,.tmp 88],argTypes:=#[25,9] },34,"law.go:128",#[⟨0,.data⟩,⟨2,.data⟩],none⟩) rfl (fun Kx hK => ?_) (AllReadyH.cons (o:=⟨some 11,.alloc 30,0,"law.go:128",#[],none⟩) rfl (fun Kx hK => ?_) (AllReadyH.nil))
  ·go_simp
   refine (vwof_any (K.out.later K0.out) KOK.out hle u).mono ?_
   rintro e z10001 ⟨vA1,rfl,hA1,bz10001⟩
   have K10001:=hD (below2Z K0.out bz10001)
   have D10001:=hD (heldB_up K10001.out D0.out)
   have A1:=hD hA1.tab
   clear hA1
   clear bz10001
   go_wp2_with fail
   refine hK.out _ _ ?_ (fun hHeld2 => ?_)
   ·exact D10001.out
   clear hK Kx hHeld
   have hHeld:=hHeld2
   clear hHeld2
   try simp only [Act.put,List.setIfInBounds_toArray,List.set_cons_zero,List.set_cons_succ]
   refine wpAnyH_ready (rs:=[6,10]) (by as_aux_lemma => kernel_rfl) (by simp) ?_
   refine AllReadyH.cons (o:=⟨some 92,.call { callee:=.value (.func 28),args:=#[.tmp 89,.tmp 91],argTypes:=#[34,9] },31,"law.go:128",#[⟨3,.data⟩,⟨5,.data⟩,⟨3,.chain⟩],none⟩) rfl (fun Kx hK => ?_) (AllReadyH.cons (o:=⟨some 11,.alloc 30,0,"law.go:128",#[],none⟩) rfl (fun Kx hK => ?_) (AllReadyH.nil))
   ·go_simp
    refine (diget_eqV A1.out c HG).mono ?_
    rintro e z10002 ⟨rfl,bz10002⟩
    have K10002:=hD (below2Z K10001.out bz10002)
    have D10002:=hD (heldB_up K10002.out D0.out)
    replace A1:=hD (Tab.later A1.out bz10002)
    clear bz10002
    go_wp2_with fail
    refine hK.out _ _ ?_ (fun hHeld2 => ?_)
    ·exact D10002.out
    clear hK Kx hHeld
    have hHeld:=hHeld2
    clear hHeld2
    try simp only [Act.put,List.setIfInBounds_toArray,List.set_cons_zero,List.set_cons_succ]
    refine wpAnyH_take (i:=7) (oi:=⟨some 85,.move (.tmp 92),31,"law.go:128",#[⟨6,.data⟩],none⟩) (v:=?_) rfl (by as_aux_lemma => kernel_rfl) (by as_aux_lemma => kernel_rfl) (by as_aux_lemma => kernel_rfl) (fun _ _ _ h => h) (Or.inl ⟨by rfl,?_⟩) (by assumption) ?_
    rotate_left
    ·intro w' hSw
     try dsimp only at hSw
     go_simp
     try with_reducible rfl
    try simp only [Act.put,List.setIfInBounds_toArray,List.set_cons_zero,List.set_cons_succ]
    refine wpAnyH_take (i:=8) (oi:=⟨some 93,.extract (.tmp 85) 0,30,"law.go:128",#[⟨7,.data⟩],none⟩) (v:=?_) rfl (by as_aux_lemma => kernel_rfl) (by as_aux_lemma => kernel_rfl) (by as_aux_lemma => kernel_rfl) (fun _ _ _ h => h) (Or.inl ⟨by rfl,?_⟩) (by assumption) ?_
    rotate_left
    ·intro w' hSw
     try dsimp only at hSw
     go_simp
     try with_reducible rfl
    try simp only [Act.put,List.setIfInBounds_toArray,List.set_cons_zero,List.set_cons_succ]
    refine wpAnyH_take (i:=9) (oi:=⟨some 94,.extract (.tmp 85) 1,4,"law.go:128",#[⟨7,.data⟩,⟨11,.gcOnly .lateStores⟩],none⟩) (v:=?_) rfl (by as_aux_lemma => kernel_rfl) (by as_aux_lemma => kernel_rfl) (by as_aux_lemma => kernel_rfl) (fun _ _ _ h => h) (Or.inl ⟨by rfl,?_⟩) (by assumption) ?_
    rotate_left
    ·intro w' hSw
     try dsimp only at hSw
     go_simp
     try with_reducible rfl
    try simp only [Act.put,List.setIfInBounds_toArray,List.set_cons_zero,List.set_cons_succ]
    refine wpAnyH_ready (rs:=[10]) (by as_aux_lemma => kernel_rfl) (by simp) ?_
    refine AllReadyH.cons (o:=⟨some 11,.alloc 30,0,"law.go:128",#[],none⟩) rfl (fun Kx hK => ?_) AllReadyH.nil
    go_simp
    refine hK.out _ _ ?_ (fun hHeld2 => ?_)
    ·exact heldB_up (below2Z K10002.out (bl_newZ _ _)) D0.out
    clear hK Kx hHeld
    have hHeld:=hHeld2
    clear hHeld2
    try simp only [Act.put,List.setIfInBounds_toArray,List.set_cons_zero,List.set_cons_succ]
    have bz10003:=bl_newZ z10002 (.cells #[.int .i64 0,.int .i64 0,.int .i64 0,.string ⟨#[]⟩] 30)
    have K10003:=hD (below2Z K10002.out bz10003)
    have D10003:=hD (heldB_up K10003.out D0.out)
    have nz10003:=hD ((MapKept.heap_alloc z10002 (.cells #[.int .i64 0,.int .i64 0,.int .i64 0,.string ⟨#[]⟩] 30)).1)
    have hB10003:w14.heap.size≤z10002.heap.size:=(K10002.out).size
    replace A1:=hD (Tab.later A1.out bz10003)
    clear bz10003
    generalize z10002.alloc (.cells #[.int .i64 0,.int .i64 0,.int .i64 0,.string ⟨#[]⟩] 30)=z10003 at K10003 D10003 nz10003 A1 hHeld ⊢
    generalize z10002.heap.size=B10003 at nz10003 hB10003  ⊢
    obtain⟨⟨r0,r1,r2,r3⟩,⟨g0,g1,g2,g3⟩⟩:=res4_cells (show Res4 z10003 B10003 from nz10003.out)
    refine wpAnyH_ready (rs:=[11]) (by as_aux_lemma => kernel_rfl) (by simp) ?_
    refine AllReadyH.cons (o:=⟨none,.store 30 (.tmp 11) (.tmp 93),0,"law.go:128",#[⟨10,.data⟩,⟨8,.data⟩,⟨6,.chain⟩,⟨0,.phase⟩,⟨1,.phase⟩,⟨2,.phase⟩,⟨3,.phase⟩,⟨4,.phase⟩,⟨5,.phase⟩,⟨6,.phase⟩,⟨7,.phase⟩,⟨8,.phase⟩,⟨9,.textOnly .lateStores⟩,⟨10,.phase⟩],none⟩) rfl (fun Kx hK => ?_) AllReadyH.nil
    go_simp
    clear r0 r1 r2 r3 g0 g1 g2 g3
    obtain⟨y0,y1,y2,y3⟩:=set4V (y0:=.int .i64 va) (y1:=.int .i64 vb) (y2:=.int .i64 vc) (y3:=.string ⟨vs.toArray⟩) nz10003.out
    have KE:=hD (((((K10003.out).setCell (p:=⟨B10003,0,none⟩) hB10003 (.int .i64 va)).setCell (p:=⟨B10003,1,none⟩) hB10003 (.int .i64 vb)).setCell (p:=⟨B10003,2,none⟩) hB10003 (.int .i64 vc)).setCell (p:=⟨B10003,3,none⟩) hB10003 (.string ⟨vs.toArray⟩))
    refine hK.out _ _ ?_ (fun hHeld2 => ?_)
    ·exact heldB_up KE.out D0.out
    clear hK Kx hHeld
    have hHeld:=hHeld2
    clear hHeld2
    refine wpAnyH_take (i:=12) (oi:=⟨some 12,.assign (.tmp 94),4,"law.go:128",#[⟨9,.data⟩,⟨11,.chain⟩,⟨0,.phase⟩,⟨1,.phase⟩,⟨2,.phase⟩,⟨3,.phase⟩,⟨4,.phase⟩,⟨5,.phase⟩,⟨6,.phase⟩,⟨7,.phase⟩,⟨8,.phase⟩,⟨9,.phase⟩,⟨10,.phase⟩,⟨11,.phase⟩],none⟩) (v:=?_) rfl (by as_aux_lemma => kernel_rfl) (by as_aux_lemma => kernel_rfl) (by as_aux_lemma => kernel_rfl) (fun _ _ _ h => h) (Or.inl ⟨by rfl,?_⟩) (by assumption) ?_
    rotate_left
    ·intro w' hSw
     try dsimp only at hSw
     go_simp
     try with_reducible rfl
    try simp only [Act.put,List.setIfInBounds_toArray,List.set_cons_zero,List.set_cons_succ]
    refine wpAnyH_done (by kernel_rfl) ?_ _
    go_wp2_with fail
    go_meet
    exact⟨B10003,rfl,rfl,hD (cellsAt_four y0 y1 y2 y3),KE⟩
   ·go_simp
    refine hK.out _ _ ?_ (fun hHeld2 => ?_)
    ·exact heldB_up (below2Z K10001.out (bl_newZ _ _)) D0.out
    clear hK Kx hHeld
    have hHeld:=hHeld2
    clear hHeld2
    try simp only [Act.put,List.setIfInBounds_toArray,List.set_cons_zero,List.set_cons_succ]
    have bz10005:=bl_newZ z10001 (.cells #[.int .i64 0,.int .i64 0,.int .i64 0,.string ⟨#[]⟩] 30)
    have K10005:=hD (below2Z K10001.out bz10005)
    have D10005:=hD (heldB_up K10005.out D0.out)
    have nz10005:=hD ((MapKept.heap_alloc z10001 (.cells #[.int .i64 0,.int .i64 0,.int .i64 0,.string ⟨#[]⟩] 30)).1)
    have hB10005:w14.heap.size≤z10001.heap.size:=(K10001.out).size
    replace A1:=hD (Tab.later A1.out bz10005)
    clear bz10005
    generalize z10001.alloc (.cells #[.int .i64 0,.int .i64 0,.int .i64 0,.string ⟨#[]⟩] 30)=z10005 at K10005 D10005 nz10005 A1 hHeld ⊢
    generalize z10001.heap.size=B10005 at nz10005 hB10005  ⊢
    refine wpAnyH_ready (rs:=[6]) (by as_aux_lemma => kernel_rfl) (by simp) ?_
    refine AllReadyH.cons (o:=⟨some 92,.call { callee:=.value (.func 28),args:=#[.tmp 89,.tmp 91],argTypes:=#[34,9] },31,"law.go:128",#[⟨3,.data⟩,⟨5,.data⟩,⟨3,.chain⟩],none⟩) rfl (fun Kx hK => ?_) AllReadyH.nil
    go_simp
    refine (diget_eqV A1.out c HG).mono ?_
    rintro e z10006 ⟨rfl,bz10006⟩
    have K10006:=hD (below2Z K10005.out bz10006)
    have D10006:=hD (heldB_up K10006.out D0.out)
    replace A1:=hD (Tab.later A1.out bz10006)
    replace nz10005:=hD (((bz10006).block _ (Array.getElem?_eq_some_iff.1 (nz10005.out)).1).trans (nz10005.out))
    clear bz10006
    go_wp2_with fail
    refine hK.out _ _ ?_ (fun hHeld2 => ?_)
    ·exact D10006.out
    clear hK Kx hHeld
    have hHeld:=hHeld2
    clear hHeld2
    try simp only [Act.put,List.setIfInBounds_toArray,List.set_cons_zero,List.set_cons_succ]
    refine wpAnyH_take (i:=7) (oi:=⟨some 85,.move (.tmp 92),31,"law.go:128",#[⟨6,.data⟩],none⟩) (v:=?_) rfl (by as_aux_lemma => kernel_rfl) (by as_aux_lemma => kernel_rfl) (by as_aux_lemma => kernel_rfl) (fun _ _ _ h => h) (Or.inl ⟨by rfl,?_⟩) (by assumption) ?_
    rotate_left
    ·intro w' hSw
     try dsimp only at hSw
     go_simp
     try with_reducible rfl
    try simp only [Act.put,List.setIfInBounds_toArray,List.set_cons_zero,List.set_cons_succ]
    refine wpAnyH_take (i:=8) (oi:=⟨some 93,.extract (.tmp 85) 0,30,"law.go:128",#[⟨7,.data⟩],none⟩) (v:=?_) rfl (by as_aux_lemma => kernel_rfl) (by as_aux_lemma => kernel_rfl) (by as_aux_lemma => kernel_rfl) (fun _ _ _ h => h) (Or.inl ⟨by rfl,?_⟩) (by assumption) ?_
    rotate_left
    ·intro w' hSw
     try dsimp only at hSw
     go_simp
     try with_reducible rfl
    try simp only [Act.put,List.setIfInBounds_toArray,List.set_cons_zero,List.set_cons_succ]
    refine wpAnyH_take (i:=9) (oi:=⟨some 94,.extract (.tmp 85) 1,4,"law.go:128",#[⟨7,.data⟩,⟨11,.gcOnly .lateStores⟩],none⟩) (v:=?_) rfl (by as_aux_lemma => kernel_rfl) (by as_aux_lemma => kernel_rfl) (by as_aux_lemma => kernel_rfl) (fun _ _ _ h => h) (Or.inl ⟨by rfl,?_⟩) (by assumption) ?_
    rotate_left
    ·intro w' hSw
     try dsimp only at hSw
     go_simp
     try with_reducible rfl
    try simp only [Act.put,List.setIfInBounds_toArray,List.set_cons_zero,List.set_cons_succ]
    obtain⟨⟨r0,r1,r2,r3⟩,⟨g0,g1,g2,g3⟩⟩:=res4_cells (show Res4 z10006 B10005 from nz10005.out)
    refine wpAnyH_ready (rs:=[11]) (by as_aux_lemma => kernel_rfl) (by simp) ?_
    refine AllReadyH.cons (o:=⟨none,.store 30 (.tmp 11) (.tmp 93),0,"law.go:128",#[⟨10,.data⟩,⟨8,.data⟩,⟨6,.chain⟩,⟨0,.phase⟩,⟨1,.phase⟩,⟨2,.phase⟩,⟨3,.phase⟩,⟨4,.phase⟩,⟨5,.phase⟩,⟨6,.phase⟩,⟨7,.phase⟩,⟨8,.phase⟩,⟨9,.textOnly .lateStores⟩,⟨10,.phase⟩],none⟩) rfl (fun Kx hK => ?_) AllReadyH.nil
    go_simp
    clear r0 r1 r2 r3 g0 g1 g2 g3
    obtain⟨y0,y1,y2,y3⟩:=set4V (y0:=.int .i64 va) (y1:=.int .i64 vb) (y2:=.int .i64 vc) (y3:=.string ⟨vs.toArray⟩) nz10005.out
    have KE:=hD (((((K10006.out).setCell (p:=⟨B10005,0,none⟩) hB10005 (.int .i64 va)).setCell (p:=⟨B10005,1,none⟩) hB10005 (.int .i64 vb)).setCell (p:=⟨B10005,2,none⟩) hB10005 (.int .i64 vc)).setCell (p:=⟨B10005,3,none⟩) hB10005 (.string ⟨vs.toArray⟩))
    refine hK.out _ _ ?_ (fun hHeld2 => ?_)
    ·exact heldB_up KE.out D0.out
    clear hK Kx hHeld
    have hHeld:=hHeld2
    clear hHeld2
    refine wpAnyH_take (i:=12) (oi:=⟨some 12,.assign (.tmp 94),4,"law.go:128",#[⟨9,.data⟩,⟨11,.chain⟩,⟨0,.phase⟩,⟨1,.phase⟩,⟨2,.phase⟩,⟨3,.phase⟩,⟨4,.phase⟩,⟨5,.phase⟩,⟨6,.phase⟩,⟨7,.phase⟩,⟨8,.phase⟩,⟨9,.phase⟩,⟨10,.phase⟩,⟨11,.phase⟩],none⟩) (v:=?_) rfl (by as_aux_lemma => kernel_rfl) (by as_aux_lemma => kernel_rfl) (by as_aux_lemma => kernel_rfl) (fun _ _ _ h => h) (Or.inl ⟨by rfl,?_⟩) (by assumption) ?_
    rotate_left
    ·intro w' hSw
     try dsimp only at hSw
     go_simp
     try with_reducible rfl
    try simp only [Act.put,List.setIfInBounds_toArray,List.set_cons_zero,List.set_cons_succ]
    refine wpAnyH_done (by kernel_rfl) ?_ _
    go_wp2_with fail
    go_meet
    exact⟨B10005,rfl,rfl,hD (cellsAt_four y0 y1 y2 y3),KE⟩
  ·go_simp
   refine hK.out _ _ ?_ (fun hHeld2 => ?_)
   ·exact heldB_up (below2Z K0.out (bl_newZ _ _)) D0.out
   clear hK Kx hHeld
   have hHeld:=hHeld2
   clear hHeld2
   try simp only [Act.put,List.setIfInBounds_toArray,List.set_cons_zero,List.set_cons_succ]
   have bz10008:=bl_newZ z0 (.cells #[.int .i64 0,.int .i64 0,.int .i64 0,.string ⟨#[]⟩] 30)
   have K10008:=hD (below2Z K0.out bz10008)
   have D10008:=hD (heldB_up K10008.out D0.out)
   have nz10008:=hD ((MapKept.heap_alloc z0 (.cells #[.int .i64 0,.int .i64 0,.int .i64 0,.string ⟨#[]⟩] 30)).1)
   have hB10008:w14.heap.size≤z0.heap.size:=(K0.out).size
   clear bz10008
   generalize z0.alloc (.cells #[.int .i64 0,.int .i64 0,.int .i64 0,.string ⟨#[]⟩] 30)=z10008 at K10008 D10008 nz10008 hHeld ⊢
   generalize z0.heap.size=B10008 at nz10008 hB10008  ⊢
   refine wpAnyH_ready (rs:=[3]) (by as_aux_lemma => kernel_rfl) (by simp) ?_
   refine AllReadyH.cons (o:=⟨some 89,.call { callee:=.value (.func 18),args:=#[.tmp 86,.tmp 88],argTypes:=#[25,9] },34,"law.go:128",#[⟨0,.data⟩,⟨2,.data⟩],none⟩) rfl (fun Kx hK => ?_) AllReadyH.nil
   go_simp
   refine (vwof_any (K.out.later K10008.out) KOK.out hle u).mono ?_
   rintro e z10009 ⟨vA1,rfl,hA1,bz10009⟩
   have K10009:=hD (below2Z K10008.out bz10009)
   have D10009:=hD (heldB_up K10009.out D0.out)
   replace nz10008:=hD (((bz10009).block _ (Array.getElem?_eq_some_iff.1 (nz10008.out)).1).trans (nz10008.out))
   have A1:=hD hA1.tab
   clear hA1
   clear bz10009
   go_wp2_with fail
   refine hK.out _ _ ?_ (fun hHeld2 => ?_)
   ·exact D10009.out
   clear hK Kx hHeld
   have hHeld:=hHeld2
   clear hHeld2
   try simp only [Act.put,List.setIfInBounds_toArray,List.set_cons_zero,List.set_cons_succ]
   refine wpAnyH_ready (rs:=[6]) (by as_aux_lemma => kernel_rfl) (by simp) ?_
   refine AllReadyH.cons (o:=⟨some 92,.call { callee:=.value (.func 28),args:=#[.tmp 89,.tmp 91],argTypes:=#[34,9] },31,"law.go:128",#[⟨3,.data⟩,⟨5,.data⟩,⟨3,.chain⟩],none⟩) rfl (fun Kx hK => ?_) AllReadyH.nil
   go_simp
   refine (diget_eqV A1.out c HG).mono ?_
   rintro e z10010 ⟨rfl,bz10010⟩
   have K10010:=hD (below2Z K10009.out bz10010)
   have D10010:=hD (heldB_up K10010.out D0.out)
   replace nz10008:=hD (((bz10010).block _ (Array.getElem?_eq_some_iff.1 (nz10008.out)).1).trans (nz10008.out))
   replace A1:=hD (Tab.later A1.out bz10010)
   clear bz10010
   go_wp2_with fail
   refine hK.out _ _ ?_ (fun hHeld2 => ?_)
   ·exact D10010.out
   clear hK Kx hHeld
   have hHeld:=hHeld2
   clear hHeld2
   try simp only [Act.put,List.setIfInBounds_toArray,List.set_cons_zero,List.set_cons_succ]
   refine wpAnyH_take (i:=7) (oi:=⟨some 85,.move (.tmp 92),31,"law.go:128",#[⟨6,.data⟩],none⟩) (v:=?_) rfl (by as_aux_lemma => kernel_rfl) (by as_aux_lemma => kernel_rfl) (by as_aux_lemma => kernel_rfl) (fun _ _ _ h => h) (Or.inl ⟨by rfl,?_⟩) (by assumption) ?_
   rotate_left
   ·intro w' hSw
    try dsimp only at hSw
    go_simp
    try with_reducible rfl
   try simp only [Act.put,List.setIfInBounds_toArray,List.set_cons_zero,List.set_cons_succ]
   refine wpAnyH_take (i:=8) (oi:=⟨some 93,.extract (.tmp 85) 0,30,"law.go:128",#[⟨7,.data⟩],none⟩) (v:=?_) rfl (by as_aux_lemma => kernel_rfl) (by as_aux_lemma => kernel_rfl) (by as_aux_lemma => kernel_rfl) (fun _ _ _ h => h) (Or.inl ⟨by rfl,?_⟩) (by assumption) ?_
   rotate_left
   ·intro w' hSw
    try dsimp only at hSw
    go_simp
    try with_reducible rfl
   try simp only [Act.put,List.setIfInBounds_toArray,List.set_cons_zero,List.set_cons_succ]
   refine wpAnyH_take (i:=9) (oi:=⟨some 94,.extract (.tmp 85) 1,4,"law.go:128",#[⟨7,.data⟩,⟨11,.gcOnly .lateStores⟩],none⟩) (v:=?_) rfl (by as_aux_lemma => kernel_rfl) (by as_aux_lemma => kernel_rfl) (by as_aux_lemma => kernel_rfl) (fun _ _ _ h => h) (Or.inl ⟨by rfl,?_⟩) (by assumption) ?_
   rotate_left
   ·intro w' hSw
    try dsimp only at hSw
    go_simp
    try with_reducible rfl
   try simp only [Act.put,List.setIfInBounds_toArray,List.set_cons_zero,List.set_cons_succ]
   obtain⟨⟨r0,r1,r2,r3⟩,⟨g0,g1,g2,g3⟩⟩:=res4_cells (show Res4 z10010 B10008 from nz10008.out)
   refine wpAnyH_ready (rs:=[11]) (by as_aux_lemma => kernel_rfl) (by simp) ?_
   refine AllReadyH.cons (o:=⟨none,.store 30 (.tmp 11) (.tmp 93),0,"law.go:128",#[⟨10,.data⟩,⟨8,.data⟩,⟨6,.chain⟩,⟨0,.phase⟩,⟨1,.phase⟩,⟨2,.phase⟩,⟨3,.phase⟩,⟨4,.phase⟩,⟨5,.phase⟩,⟨6,.phase⟩,⟨7,.phase⟩,⟨8,.phase⟩,⟨9,.textOnly .lateStores⟩,⟨10,.phase⟩],none⟩) rfl (fun Kx hK => ?_) AllReadyH.nil
   go_simp
   clear r0 r1 r2 r3 g0 g1 g2 g3
   obtain⟨y0,y1,y2,y3⟩:=set4V (y0:=.int .i64 va) (y1:=.int .i64 vb) (y2:=.int .i64 vc) (y3:=.string ⟨vs.toArray⟩) nz10008.out
   have KE:=hD (((((K10010.out).setCell (p:=⟨B10008,0,none⟩) hB10008 (.int .i64 va)).setCell (p:=⟨B10008,1,none⟩) hB10008 (.int .i64 vb)).setCell (p:=⟨B10008,2,none⟩) hB10008 (.int .i64 vc)).setCell (p:=⟨B10008,3,none⟩) hB10008 (.string ⟨vs.toArray⟩))
   refine hK.out _ _ ?_ (fun hHeld2 => ?_)
   ·exact heldB_up KE.out D0.out
   clear hK Kx hHeld
   have hHeld:=hHeld2
   clear hHeld2
   refine wpAnyH_take (i:=12) (oi:=⟨some 12,.assign (.tmp 94),4,"law.go:128",#[⟨9,.data⟩,⟨11,.chain⟩,⟨0,.phase⟩,⟨1,.phase⟩,⟨2,.phase⟩,⟨3,.phase⟩,⟨4,.phase⟩,⟨5,.phase⟩,⟨6,.phase⟩,⟨7,.phase⟩,⟨8,.phase⟩,⟨9,.phase⟩,⟨10,.phase⟩,⟨11,.phase⟩],none⟩) (v:=?_) rfl (by as_aux_lemma => kernel_rfl) (by as_aux_lemma => kernel_rfl) (by as_aux_lemma => kernel_rfl) (fun _ _ _ h => h) (Or.inl ⟨by rfl,?_⟩) (by assumption) ?_
   rotate_left
   ·intro w' hSw
    try dsimp only at hSw
    go_simp
    try with_reducible rfl
   try simp only [Act.put,List.setIfInBounds_toArray,List.set_cons_zero,List.set_cons_succ]
   refine wpAnyH_done (by kernel_rfl) ?_ _
   go_wp2_with fail
   go_meet
   exact⟨B10008,rfl,rfl,hD (cellsAt_four y0 y1 y2 y3),KE⟩
 case rest =>
  obtain⟨BKV,rfl,rfl,KV,KB15⟩:=hcut
  obtain⟨w15,hw15⟩ : ∃ X,X=wc:=⟨_,rfl⟩
  subst hw15
  replace SB:=hD (upQ SB.out KB15.out)
  replace EB:=hD (upQ EB.out KB15.out)
  replace TB:=hD (upQ TB.out KB15.out)
  replace H:=hD (H.out.later KB15.out)
  replace K:=hD (K.out.later KB15.out)
  replace HB:=hD (below2Z HB.out KB15.out)
  clear KB15
  obtain⟨⟨TBc0,TBc1⟩,⟨TBf0,TBf1⟩⟩:=blk2 TB.out
  obtain⟨⟨EBc0,EBc1,EBc2,EBc3,EBc4,EBc5,EBc6,EBc7⟩,⟨EBf0,EBf1,EBf2,EBf3,EBf4,EBf5,EBf6,EBf7⟩⟩:=blk8 EB.out
  go_wp2_with fail
  clear TBc0 TBc1 TBf0 TBf1 EBc0 EBc1 EBc2 EBc3 EBc4 EBc5 EBc6 EBc7 EBf0 EBf1 EBf2 EBf3 EBf4 EBf5 EBf6 EBf7
  refine (vwwat_any K.out KOK.out hle c).mono ?_
  rintro e w16 ⟨vA2,rfl,hA2,b16⟩
  replace SB:=hD (upQ SB.out b16)
  replace EB:=hD (upQ EB.out b16)
  replace TB:=hD (upQ TB.out b16)
  replace H:=hD (H.out.later b16)
  replace K:=hD (K.out.later b16)
  replace KV:=hD (CellsAt.later KV.out b16)
  replace HB:=hD (below2Z HB.out b16)
  obtain⟨a2,c2,rfl⟩:=texts_shape hA2 NW.out
  have A2:=hD hA2
  clear hA2
  clear b16
  clear SB
  go_wp2_with fail
  go_loopw [14] (fun i wr => ∃ k:Nat,k≤nw∧i=.int .i64 k∧Hid (Below w16.heap.size w16 wr)) (fun i _ => nw - (intOf i).toNat)
  case atStart => exact⟨0,by omega,rfl,Below.refl _ _⟩
  case round =>
   obtain⟨k,hk,rfl,HN⟩:=hrel
   by_cases hlt:k < nw
   ·obtain⟨b,off,rfl,hcc⟩:=A2.out.cell HN.out k (by rw [NW.out]; exact hlt)
    have hmem:(vwWat t c).getD k [] ∈ vwWat t c:=by rw [List.getD_eq_getElem?_getD,List.getElem?_eq_getElem (by rw [NW.out]; exact hlt)]; exact List.getElem_mem _
    obtain⟨z,hz⟩ : ∃ z,(vwWat t c).getD k []=z:=⟨_,rfl⟩
    rw [hz] at hcc hmem
    have hzr:=HR.out z hmem
    have EBW:=hD (upQ EB.out HN.out)
    have hkn:(0:Int)≤(k:Int):=by omega
    have hki:(k:Int) < (nw:Int):=by omega
    have B5:=hD HN.out.drew
    clear hz hmem
    obtain⟨⟨e0,e1,e2_,e3,e4,e5,e6,e7⟩,⟨g0,g1,g2,g3,g4,g5,g6,g7⟩⟩:=blk8 EBW.out
    obtain⟨bz,hbz⟩ : ∃ b,(z == u)=b:=⟨_,rfl⟩
    have hbr:(bz && !r)=false:=by
     cases bz with
     | false => rfl
     | true => rw [hzr (by simpa using hbz)]; rfl
    cases bz with
    | false =>
     clear hzr hbr
     go_wp2_with fail
     go_region
     all_goals go_wp2_with fail
     all_goals go_roundw
     case rel => exact⟨k+1,by omega,by go_num,B5⟩
     case measure => simp [intOf]; omega
    | true =>
     obtain rfl:r=true:=by cases r with
      | false => cases hbr
      | true => rfl
     clear hzr hbr
     go_wp2_with fail
     go_region
     all_goals go_wp2_with fail
     all_goals go_roundw
     case rel => exact⟨k+1,by omega,by go_num,B5⟩
     case measure => simp [intOf]; omega
   ·obtain rfl:k=nw:=by omega
    replace HB:=hD (below2Z HB.out HN.out)
    go_wp2_with fail
    refine (live15 _).mono ?_
    rintro e w17 ⟨rfl,b17⟩
    replace HB:=hD (below2Z HB.out b17)
    clear b17
    go_wp2_with fail
    go_ret
    exact⟨rfl,HB.out⟩

theorem vbl_k5 {w:World} {x y:Value} {s:Sta} (h:StAt w x y s) (u c es:List UInt8) (id ea eb ed:Int) (f1:fewSta s=true) (f2:stMay s=true) (f3:shortEv ⟨5,u,c,id,⟨ea,eb,ed,es⟩⟩=true) {t:Sta} (hap:stApply s ⟨5,u,c,id,⟨ea,eb,ed,es⟩⟩=(t,0)) :
  Calls Tryz.prog 7 #[.agg #[x,y],.agg #[.int .i64 5,.string ⟨u.toArray⟩,.string ⟨c.toArray⟩,.int .i64 id,.int .i64 ea,.int .i64 eb,.int .i64 ed,.string ⟨es.toArray⟩]] w fun e w' => e=.returned (.bool true)∧Below w.heap.size w w':=by
 have b0:=bl_newZ w (.cells #[x,y] 25)
 have b1:=bl_newZ (w.alloc (.cells #[x,y] 25)) (.cells #[.int .i64 5,.string ⟨u.toArray⟩,.string ⟨c.toArray⟩,.int .i64 id,.int .i64 ea,.int .i64 eb,.int .i64 ed,.string ⟨es.toArray⟩] 50)
 have HB:=hD (below2Z b0 b1)
 have H:=hD ((h.later b0).later b1)
 have SB:=newQ w (.cells #[x,y] 25)
 replace SB:=upQ SB b1
 replace SB:=hD SB
 have EB:=newQ (w.alloc (.cells #[x,y] 25)) (.cells #[.int .i64 5,.string ⟨u.toArray⟩,.string ⟨c.toArray⟩,.int .i64 id,.int .i64 ea,.int .i64 eb,.int .i64 ed,.string ⟨es.toArray⟩] 50)
 rw [World.size_alloc] at EB
 replace EB:=hD EB
 clear b0 b1
 clear h
 obtain⟨HOK,he80,hs50⟩:=fewSta_V f1
 replace HOK:=hD HOK
 obtain⟨hu,hc,hs⟩:=shortEv_get f3
 simp only at hu hc hs
 have F1:=hD f1
 have F2:=hD f2
 have F3:=hD f3
 clear f1 f2 f3
 have AP:=hD hap
 have hMt:=stApply_may hap
 obtain⟨hun1,hun2⟩:=vw_unsees hap
 have hle:t.e.length≤4294967:=by have:=stLen_next hap; omega
 clear hap
 obtain⟨⟨⟨va,vb,vc,vs⟩,r⟩,hv⟩ : ∃ p,vwVal t u c=p:=⟨_,rfl⟩
 obtain⟨⟨⟨ya,yb,yc,ys⟩,r2⟩,hv2⟩ : ∃ p,vwVal t c u=p:=⟨_,rfl⟩
 rw [hv] at hun1
 rw [hv2] at hun2
 simp only at hun1 hun2
 obtain rfl:r=false:=by first | exact hun1 (.inl rfl) | exact hun1 (.inr rfl) | simpa using hun1
 obtain rfl:r2=false:=by first | exact hun2 (.inl rfl) | exact hun2 (.inr rfl) | simpa using hun2
 have HV:Hid (vwValue t u c=(⟨va,vb,vc,vs⟩,false)):=hD (by rw [vwValue_is hMt]; exact hv)
 have HV2:Hid (vwValue t c u=(⟨ya,yb,yc,ys⟩,false)):=hD (by rw [vwValue_is hMt]; exact hv2)
 have HG:Hid (diGet (vwOf t u) c=(⟨va,vb,vc,vs⟩,false)):=hD (by rw [vwOf_get hMt]; exact hv)
 have HR:Hid (∀ z ∈ vwWat t c,z=u→false=true):=hD (fun z hz e => by subst e; have:=(vwWat_mem hMt).1 hz; rw [hv] at this; exact this)
 have KOK:=hD (stOK_may hMt)
 obtain⟨nw,hnw⟩ : ∃ n,(vwWat t c).length=n:=⟨_,rfl⟩
 have NW:=hD hnw
 have hnw80:nw≤4294967:=by rw [← hnw]; exact Nat.le_trans (vwWat_le t c) hle
 clear hMt hv hv2 hnw hun1 hun2
 have e2:=bool_eql false
 obtain⟨⟨SBc0,SBc1⟩,⟨SBf0,SBf1⟩⟩:=blk2 SB.out
 obtain⟨⟨EBc0,EBc1,EBc2,EBc3,EBc4,EBc5,EBc6,EBc7⟩,⟨EBf0,EBf1,EBf2,EBf3,EBf4,EBf5,EBf6,EBf7⟩⟩:=blk8 EB.out
 go_enter Tryz.func7,Tryz.ntmps7
 go_wp2_with fail
 clear SBc0 SBc1 SBf0 SBf1 EBc0 EBc1 EBc2 EBc3 EBc4 EBc5 EBc6 EBc7 EBf0 EBf1 EBf2 EBf3 EBf4 EBf5 EBf6 EBf7
 refine (fewst_any H.out F1).mono ?_
 rintro e w3 ⟨rfl,b3⟩
 replace SB:=hD (upQ SB.out b3)
 replace EB:=hD (upQ EB.out b3)
 replace H:=hD (H.out.later b3)
 replace HB:=hD (below2Z HB.out b3)
 clear b3
 obtain⟨⟨SBc0,SBc1⟩,⟨SBf0,SBf1⟩⟩:=blk2 SB.out
 obtain⟨⟨EBc0,EBc1,EBc2,EBc3,EBc4,EBc5,EBc6,EBc7⟩,⟨EBf0,EBf1,EBf2,EBf3,EBf4,EBf5,EBf6,EBf7⟩⟩:=blk8 EB.out
 go_wp2_with fail
 clear SBc0 SBc1 SBf0 SBf1 EBc0 EBc1 EBc2 EBc3 EBc4 EBc5 EBc6 EBc7 EBf0 EBf1 EBf2 EBf3 EBf4 EBf5 EBf6 EBf7
 refine (rstmay_any H.out HOK.out.1 (by omega) HOK.out.2 F2).mono ?_
 rintro e w4 ⟨rfl,b4⟩
 replace SB:=hD (upQ SB.out b4)
 replace EB:=hD (upQ EB.out b4)
 replace H:=hD (H.out.later b4)
 replace HB:=hD (below2Z HB.out b4)
 clear b4
 obtain⟨⟨SBc0,SBc1⟩,⟨SBf0,SBf1⟩⟩:=blk2 SB.out
 obtain⟨⟨EBc0,EBc1,EBc2,EBc3,EBc4,EBc5,EBc6,EBc7⟩,⟨EBf0,EBf1,EBf2,EBf3,EBf4,EBf5,EBf6,EBf7⟩⟩:=blk8 EB.out
 go_wp2_with fail
 clear SBc0 SBc1 SBf0 SBf1 EBc0 EBc1 EBc2 EBc3 EBc4 EBc5 EBc6 EBc7 EBf0 EBf1 EBf2 EBf3 EBf4 EBf5 EBf6 EBf7
 refine (short14_any 5 u c es id ea eb ed F3 _).mono ?_
 rintro e w5 ⟨rfl,b5⟩
 replace SB:=hD (upQ SB.out b5)
 replace EB:=hD (upQ EB.out b5)
 replace H:=hD (H.out.later b5)
 replace HB:=hD (below2Z HB.out b5)
 clear b5
 obtain⟨⟨SBc0,SBc1⟩,⟨SBf0,SBf1⟩⟩:=blk2 SB.out
 obtain⟨⟨EBc0,EBc1,EBc2,EBc3,EBc4,EBc5,EBc6,EBc7⟩,⟨EBf0,EBf1,EBf2,EBf3,EBf4,EBf5,EBf6,EBf7⟩⟩:=blk8 EB.out
 go_wp2_with fail
 clear SBc0 SBc1 SBf0 SBf1 EBc0 EBc1 EBc2 EBc3 EBc4 EBc5 EBc6 EBc7 EBf0 EBf1 EBf2 EBf3 EBf4 EBf5 EBf6 EBf7
 refine (stdo_any H.out HOK.out.1 (by omega) HOK.out.2 ⟨5,u,c,id,⟨ea,eb,ed,es⟩⟩ (by simp only; omega) (by simp only; omega) (by simp only; omega) AP.out).mono ?_
 rintro e w6 ⟨p,q,rfl,hk1,b6⟩
 replace SB:=hD (upQ SB.out b6)
 replace EB:=hD (upQ EB.out b6)
 replace H:=hD (H.out.later b6)
 replace HB:=hD (below2Z HB.out b6)
 obtain⟨pa,pc,rfl⟩:=ents_shape hk1.1 rfl
 obtain⟨qa,qc,rfl⟩:=rdS_shape hk1.2 rfl
 have K:=hD hk1
 clear hk1
 clear b6
 have b7:=bl_newZ w6 (.cells #[.slice pa t.e.length pc,.slice qa t.s.length qc] 25)
 have TB:=newQ w6 (.cells #[.slice pa t.e.length pc,.slice qa t.s.length qc] 25)
 have hTB:w.heap.size≤w6.heap.size:=HB.out.size
 replace SB:=hD (upQ SB.out b7)
 replace EB:=hD (upQ EB.out b7)
 replace H:=hD (H.out.later b7)
 replace K:=hD (K.out.later b7)
 replace HB:=hD (below2Z HB.out b7)
 clear b7
 replace TB:=hD TB
 obtain⟨⟨SBc0,SBc1⟩,⟨SBf0,SBf1⟩⟩:=blk2 SB.out
 obtain⟨⟨TBc0,TBc1⟩,⟨TBf0,TBf1⟩⟩:=blk2 TB.out
 obtain⟨⟨EBc0,EBc1,EBc2,EBc3,EBc4,EBc5,EBc6,EBc7⟩,⟨EBf0,EBf1,EBf2,EBf3,EBf4,EBf5,EBf6,EBf7⟩⟩:=blk8 EB.out
 go_wp2_with fail
 clear SBc0 SBc1 SBf0 SBf1 TBc0 TBc1 TBf0 TBf1 EBc0 EBc1 EBc2 EBc3 EBc4 EBc5 EBc6 EBc7 EBf0 EBf1 EBf2 EBf3 EBf4 EBf5 EBf6 EBf7
 generalize w6.alloc (.cells #[.slice pa t.e.length pc,.slice qa t.s.length qc] 25)=w8 at SB EB TB H K HB ⊢
 refine (vwvalue_any K.out KOK.out u c HV).mono ?_
 rintro e w9 ⟨rfl,b9⟩
 replace SB:=hD (upQ SB.out b9)
 replace EB:=hD (upQ EB.out b9)
 replace TB:=hD (upQ TB.out b9)
 replace H:=hD (H.out.later b9)
 replace K:=hD (K.out.later b9)
 replace HB:=hD (below2Z HB.out b9)
 clear b9
 have b10:=bl_newZ w9 (.cells #[.int .i64 va,.int .i64 vb,.int .i64 vc,.string ⟨vs.toArray⟩] 30)
 have VA:=newQ w9 (.cells #[.int .i64 va,.int .i64 vb,.int .i64 vc,.string ⟨vs.toArray⟩] 30)
 have hVA:w.heap.size≤w9.heap.size:=HB.out.size
 replace SB:=hD (upQ SB.out b10)
 replace EB:=hD (upQ EB.out b10)
 replace TB:=hD (upQ TB.out b10)
 replace H:=hD (H.out.later b10)
 replace K:=hD (K.out.later b10)
 replace HB:=hD (below2Z HB.out b10)
 clear b10
 replace VA:=hD VA
 obtain⟨⟨TBc0,TBc1⟩,⟨TBf0,TBf1⟩⟩:=blk2 TB.out
 obtain⟨⟨EBc0,EBc1,EBc2,EBc3,EBc4,EBc5,EBc6,EBc7⟩,⟨EBf0,EBf1,EBf2,EBf3,EBf4,EBf5,EBf6,EBf7⟩⟩:=blk8 EB.out
 go_wp2_with fail
 clear TBc0 TBc1 TBf0 TBf1 EBc0 EBc1 EBc2 EBc3 EBc4 EBc5 EBc6 EBc7 EBf0 EBf1 EBf2 EBf3 EBf4 EBf5 EBf6 EBf7
 generalize w9.alloc (.cells #[.int .i64 va,.int .i64 vb,.int .i64 vc,.string ⟨vs.toArray⟩] 30)=w11 at SB EB TB VA H K HB ⊢
 clear VA
 refine (vwvalue_any K.out KOK.out c u HV2).mono ?_
 rintro e w12 ⟨rfl,b12⟩
 replace SB:=hD (upQ SB.out b12)
 replace EB:=hD (upQ EB.out b12)
 replace TB:=hD (upQ TB.out b12)
 replace H:=hD (H.out.later b12)
 replace K:=hD (K.out.later b12)
 replace HB:=hD (below2Z HB.out b12)
 clear b12
 have b13:=bl_newZ w12 (.cells #[.int .i64 ya,.int .i64 yb,.int .i64 yc,.string ⟨ys.toArray⟩] 30)
 have VB:=newQ w12 (.cells #[.int .i64 ya,.int .i64 yb,.int .i64 yc,.string ⟨ys.toArray⟩] 30)
 have hVB:w.heap.size≤w12.heap.size:=HB.out.size
 replace SB:=hD (upQ SB.out b13)
 replace EB:=hD (upQ EB.out b13)
 replace TB:=hD (upQ TB.out b13)
 replace H:=hD (H.out.later b13)
 replace K:=hD (K.out.later b13)
 replace HB:=hD (below2Z HB.out b13)
 clear b13
 replace VB:=hD VB
 obtain⟨⟨EBc0,EBc1,EBc2,EBc3,EBc4,EBc5,EBc6,EBc7⟩,⟨EBf0,EBf1,EBf2,EBf3,EBf4,EBf5,EBf6,EBf7⟩⟩:=blk8 EB.out
 obtain⟨⟨TBc0,TBc1⟩,⟨TBf0,TBf1⟩⟩:=blk2 TB.out
 go_upto_region 10 with fail
 clear EBc0 EBc1 EBc2 EBc3 EBc4 EBc5 EBc6 EBc7 EBf0 EBf1 EBf2 EBf3 EBf4 EBf5 EBf6 EBf7 TBc0 TBc1 TBf0 TBf1
 generalize w12.alloc (.cells #[.int .i64 ya,.int .i64 yb,.int .i64 yc,.string ⟨ys.toArray⟩] 30)=w14 at SB EB TB VB H K HB ⊢
 clear VB
 go_cut [11,12] from 85 to 94 (fun p z wx => ∃ B,p=.pointer (some ⟨B,0,none⟩)∧z=.bool false∧Hid (CellsAt wx B 0 [.int .i64 va,.int .i64 vb,.int .i64 vc,.string ⟨vs.toArray⟩])∧Hid (Below w14.heap.size w14 wx))
 case first =>
  obtain⟨BS,hBS⟩ : ∃ BS:List (Nat × List Value),BS=[(w6.heap.size,[.slice pa t.e.length pc,.slice qa t.s.length qc]),(w.heap.size+1,[.int .i64 5,.string ⟨u.toArray⟩,.string ⟨c.toArray⟩,.int .i64 id,.int .i64 ea,.int .i64 eb,.int .i64 ed,.string ⟨es.toArray⟩])]:=⟨_,rfl⟩
  have D0:=hD (show heldB w14 BS from by rw [hBS]; exact heldB_cons (cellsAt_block TB.out) (heldB_cons (cellsAt_block EB.out) (heldB_nil _)))
  have hq0:∀ X,heldB X BS→X.cell? ⟨w6.heap.size,0,none⟩=some (.slice pa t.e.length pc):=fun X hx => heldB_get (vs:=[.slice pa t.e.length pc,.slice qa t.s.length qc]) hx (by rw [hBS]; simp) rfl
  have hq1:∀ X,heldB X BS→X.cell? ⟨w6.heap.size,1,none⟩=some (.slice qa t.s.length qc):=fun X hx => heldB_get (vs:=[.slice pa t.e.length pc,.slice qa t.s.length qc]) hx (by rw [hBS]; simp) rfl
  have hq2:∀ X,heldB X BS→X.cell? ⟨w.heap.size+1,0,none⟩=some (.int .i64 5):=fun X hx => heldB_get (vs:=[.int .i64 5,.string ⟨u.toArray⟩,.string ⟨c.toArray⟩,.int .i64 id,.int .i64 ea,.int .i64 eb,.int .i64 ed,.string ⟨es.toArray⟩]) hx (by rw [hBS]; simp) rfl
  have hq3:∀ X,heldB X BS→X.cell? ⟨w.heap.size+1,1,none⟩=some (.string ⟨u.toArray⟩):=fun X hx => heldB_get (vs:=[.int .i64 5,.string ⟨u.toArray⟩,.string ⟨c.toArray⟩,.int .i64 id,.int .i64 ea,.int .i64 eb,.int .i64 ed,.string ⟨es.toArray⟩]) hx (by rw [hBS]; simp) rfl
  have hq4:∀ X,heldB X BS→X.cell? ⟨w.heap.size+1,2,none⟩=some (.string ⟨c.toArray⟩):=fun X hx => heldB_get (vs:=[.int .i64 5,.string ⟨u.toArray⟩,.string ⟨c.toArray⟩,.int .i64 id,.int .i64 ea,.int .i64 eb,.int .i64 ed,.string ⟨es.toArray⟩]) hx (by rw [hBS]; simp) rfl
  have hq5:∀ X,heldB X BS→X.cell? ⟨w.heap.size+1,3,none⟩=some (.int .i64 id):=fun X hx => heldB_get (vs:=[.int .i64 5,.string ⟨u.toArray⟩,.string ⟨c.toArray⟩,.int .i64 id,.int .i64 ea,.int .i64 eb,.int .i64 ed,.string ⟨es.toArray⟩]) hx (by rw [hBS]; simp) rfl
  have hq6:∀ X,heldB X BS→X.cell? ⟨w.heap.size+1,4,none⟩=some (.int .i64 ea):=fun X hx => heldB_get (vs:=[.int .i64 5,.string ⟨u.toArray⟩,.string ⟨c.toArray⟩,.int .i64 id,.int .i64 ea,.int .i64 eb,.int .i64 ed,.string ⟨es.toArray⟩]) hx (by rw [hBS]; simp) rfl
  have hq7:∀ X,heldB X BS→X.cell? ⟨w.heap.size+1,5,none⟩=some (.int .i64 eb):=fun X hx => heldB_get (vs:=[.int .i64 5,.string ⟨u.toArray⟩,.string ⟨c.toArray⟩,.int .i64 id,.int .i64 ea,.int .i64 eb,.int .i64 ed,.string ⟨es.toArray⟩]) hx (by rw [hBS]; simp) rfl
  have hq8:∀ X,heldB X BS→X.cell? ⟨w.heap.size+1,6,none⟩=some (.int .i64 ed):=fun X hx => heldB_get (vs:=[.int .i64 5,.string ⟨u.toArray⟩,.string ⟨c.toArray⟩,.int .i64 id,.int .i64 ea,.int .i64 eb,.int .i64 ed,.string ⟨es.toArray⟩]) hx (by rw [hBS]; simp) rfl
  have hq9:∀ X,heldB X BS→X.cell? ⟨w.heap.size+1,7,none⟩=some (.string ⟨es.toArray⟩):=fun X hx => heldB_get (vs:=[.int .i64 5,.string ⟨u.toArray⟩,.string ⟨c.toArray⟩,.int .i64 id,.int .i64 ea,.int .i64 eb,.int .i64 ed,.string ⟨es.toArray⟩]) hx (by rw [hBS]; simp) rfl
  clear hBS
  have K0:Hid (Below w14.heap.size w14 w14.drew):=hD (Below.refl _ _).drew
  refine wp_region_held_drew (S:=(fun X => heldB X BS)) (by kernel_rfl) ?_ (fun hHeld => ?_)
  ·exact heldB_up K0.out D0.out
  generalize w14.drew=z0 at K0 hHeld ⊢
  refine wpAnyH_take (i:=0) (oi:=⟨some 86,.load 25 (.tmp 5),25,"law.go:128",#[],none⟩) (v:=?_) rfl (by as_aux_lemma => kernel_rfl) (by as_aux_lemma => kernel_rfl) (by as_aux_lemma => kernel_rfl) (fun _ _ _ h => h) (Or.inl ⟨by rfl,?_⟩) (by assumption) ?_
  rotate_left
  ·intro w' hSw
   try dsimp only at hSw
   go_simp
   try with_reducible rfl
  try simp only [Act.put,List.setIfInBounds_toArray,List.set_cons_zero,List.set_cons_succ]
  refine wpAnyH_take (i:=1) (oi:=⟨some 87,.fieldAddr 50 (.tmp 3) 1,0,"law.go:128",#[],none⟩) (v:=?_) rfl (by as_aux_lemma => kernel_rfl) (by as_aux_lemma => kernel_rfl) (by as_aux_lemma => kernel_rfl) (fun _ _ _ h => h) (Or.inl ⟨by rfl,?_⟩) (by assumption) ?_
  rotate_left
  ·intro w' hSw
   try dsimp only at hSw
   go_simp
   try with_reducible rfl
  try simp only [Act.put,List.setIfInBounds_toArray,List.set_cons_zero,List.set_cons_succ]
  refine wpAnyH_take (i:=2) (oi:=⟨some 88,.load 9 (.tmp 87),9,"law.go:128",#[⟨1,.data⟩],none⟩) (v:=?_) rfl (by as_aux_lemma => kernel_rfl) (by as_aux_lemma => kernel_rfl) (by as_aux_lemma => kernel_rfl) (fun _ _ _ h => h) (Or.inl ⟨by rfl,?_⟩) (by assumption) ?_
  rotate_left
  ·intro w' hSw
   try dsimp only at hSw
   go_simp
   try with_reducible rfl
  try simp only [Act.put,List.setIfInBounds_toArray,List.set_cons_zero,List.set_cons_succ]
  refine wpAnyH_take (i:=4) (oi:=⟨some 90,.fieldAddr 50 (.tmp 3) 2,0,"law.go:128",#[],none⟩) (v:=?_) rfl (by as_aux_lemma => kernel_rfl) (by as_aux_lemma => kernel_rfl) (by as_aux_lemma => kernel_rfl) (fun _ _ _ h => h) (Or.inl ⟨by rfl,?_⟩) (by assumption) ?_
  rotate_left
  ·intro w' hSw
   try dsimp only at hSw
   go_simp
   try with_reducible rfl
  try simp only [Act.put,List.setIfInBounds_toArray,List.set_cons_zero,List.set_cons_succ]
  refine wpAnyH_take (i:=5) (oi:=⟨some 91,.load 9 (.tmp 90),9,"law.go:128",#[⟨4,.data⟩],none⟩) (v:=?_) rfl (by as_aux_lemma => kernel_rfl) (by as_aux_lemma => kernel_rfl) (by as_aux_lemma => kernel_rfl) (fun _ _ _ h => h) (Or.inl ⟨by rfl,?_⟩) (by assumption) ?_
  rotate_left
  ·intro w' hSw
   try dsimp only at hSw
   go_simp
   try with_reducible rfl
  try simp only [Act.put,List.setIfInBounds_toArray,List.set_cons_zero,List.set_cons_succ]
  refine wpAnyH_ready (rs:=[3,10]) (by as_aux_lemma => kernel_rfl) (by simp) ?_
  refine AllReadyH.cons (o:=⟨some 89,.call { callee:=.value (.func 18),args:=#[.tmp 86,.tmp 88],argTypes:=#[25,9] },34,"law.go:128",#[⟨0,.data⟩,⟨2,.data⟩],none⟩) rfl (fun Kx hK => ?_) (AllReadyH.cons (o:=⟨some 11,.alloc 30,0,"law.go:128",#[],none⟩) rfl (fun Kx hK => ?_) (AllReadyH.nil))
  ·go_simp
   refine (vwof_any (K.out.later K0.out) KOK.out hle u).mono ?_
   rintro e z10001 ⟨vA1,rfl,hA1,bz10001⟩
   have K10001:=hD (below2Z K0.out bz10001)
   have D10001:=hD (heldB_up K10001.out D0.out)
   have A1:=hD hA1.tab
   clear hA1
   clear bz10001
   go_wp2_with fail
   refine hK.out _ _ ?_ (fun hHeld2 => ?_)
   ·exact D10001.out
   clear hK Kx hHeld
   have hHeld:=hHeld2
   clear hHeld2
   try simp only [Act.put,List.setIfInBounds_toArray,List.set_cons_zero,List.set_cons_succ]
   refine wpAnyH_ready (rs:=[6,10]) (by as_aux_lemma => kernel_rfl) (by simp) ?_
   refine AllReadyH.cons (o:=⟨some 92,.call { callee:=.value (.func 28),args:=#[.tmp 89,.tmp 91],argTypes:=#[34,9] },31,"law.go:128",#[⟨3,.data⟩,⟨5,.data⟩,⟨3,.chain⟩],none⟩) rfl (fun Kx hK => ?_) (AllReadyH.cons (o:=⟨some 11,.alloc 30,0,"law.go:128",#[],none⟩) rfl (fun Kx hK => ?_) (AllReadyH.nil))
   ·go_simp
    refine (diget_eqV A1.out c HG).mono ?_
    rintro e z10002 ⟨rfl,bz10002⟩
    have K10002:=hD (below2Z K10001.out bz10002)
    have D10002:=hD (heldB_up K10002.out D0.out)
    replace A1:=hD (Tab.later A1.out bz10002)
    clear bz10002
    go_wp2_with fail
    refine hK.out _ _ ?_ (fun hHeld2 => ?_)
    ·exact D10002.out
    clear hK Kx hHeld
    have hHeld:=hHeld2
    clear hHeld2
    try simp only [Act.put,List.setIfInBounds_toArray,List.set_cons_zero,List.set_cons_succ]
    refine wpAnyH_take (i:=7) (oi:=⟨some 85,.move (.tmp 92),31,"law.go:128",#[⟨6,.data⟩],none⟩) (v:=?_) rfl (by as_aux_lemma => kernel_rfl) (by as_aux_lemma => kernel_rfl) (by as_aux_lemma => kernel_rfl) (fun _ _ _ h => h) (Or.inl ⟨by rfl,?_⟩) (by assumption) ?_
    rotate_left
    ·intro w' hSw
     try dsimp only at hSw
     go_simp
     try with_reducible rfl
    try simp only [Act.put,List.setIfInBounds_toArray,List.set_cons_zero,List.set_cons_succ]
    refine wpAnyH_take (i:=8) (oi:=⟨some 93,.extract (.tmp 85) 0,30,"law.go:128",#[⟨7,.data⟩],none⟩) (v:=?_) rfl (by as_aux_lemma => kernel_rfl) (by as_aux_lemma => kernel_rfl) (by as_aux_lemma => kernel_rfl) (fun _ _ _ h => h) (Or.inl ⟨by rfl,?_⟩) (by assumption) ?_
    rotate_left
    ·intro w' hSw
     try dsimp only at hSw
     go_simp
     try with_reducible rfl
    try simp only [Act.put,List.setIfInBounds_toArray,List.set_cons_zero,List.set_cons_succ]
    refine wpAnyH_take (i:=9) (oi:=⟨some 94,.extract (.tmp 85) 1,4,"law.go:128",#[⟨7,.data⟩,⟨11,.gcOnly .lateStores⟩],none⟩) (v:=?_) rfl (by as_aux_lemma => kernel_rfl) (by as_aux_lemma => kernel_rfl) (by as_aux_lemma => kernel_rfl) (fun _ _ _ h => h) (Or.inl ⟨by rfl,?_⟩) (by assumption) ?_
    rotate_left
    ·intro w' hSw
     try dsimp only at hSw
     go_simp
     try with_reducible rfl
    try simp only [Act.put,List.setIfInBounds_toArray,List.set_cons_zero,List.set_cons_succ]
    refine wpAnyH_ready (rs:=[10]) (by as_aux_lemma => kernel_rfl) (by simp) ?_
    refine AllReadyH.cons (o:=⟨some 11,.alloc 30,0,"law.go:128",#[],none⟩) rfl (fun Kx hK => ?_) AllReadyH.nil
    go_simp
    refine hK.out _ _ ?_ (fun hHeld2 => ?_)
    ·exact heldB_up (below2Z K10002.out (bl_newZ _ _)) D0.out
    clear hK Kx hHeld
    have hHeld:=hHeld2
    clear hHeld2
    try simp only [Act.put,List.setIfInBounds_toArray,List.set_cons_zero,List.set_cons_succ]
    have bz10003:=bl_newZ z10002 (.cells #[.int .i64 0,.int .i64 0,.int .i64 0,.string ⟨#[]⟩] 30)
    have K10003:=hD (below2Z K10002.out bz10003)
    have D10003:=hD (heldB_up K10003.out D0.out)
    have nz10003:=hD ((MapKept.heap_alloc z10002 (.cells #[.int .i64 0,.int .i64 0,.int .i64 0,.string ⟨#[]⟩] 30)).1)
    have hB10003:w14.heap.size≤z10002.heap.size:=(K10002.out).size
    replace A1:=hD (Tab.later A1.out bz10003)
    clear bz10003
    generalize z10002.alloc (.cells #[.int .i64 0,.int .i64 0,.int .i64 0,.string ⟨#[]⟩] 30)=z10003 at K10003 D10003 nz10003 A1 hHeld ⊢
    generalize z10002.heap.size=B10003 at nz10003 hB10003  ⊢
    obtain⟨⟨r0,r1,r2,r3⟩,⟨g0,g1,g2,g3⟩⟩:=res4_cells (show Res4 z10003 B10003 from nz10003.out)
    refine wpAnyH_ready (rs:=[11]) (by as_aux_lemma => kernel_rfl) (by simp) ?_
    refine AllReadyH.cons (o:=⟨none,.store 30 (.tmp 11) (.tmp 93),0,"law.go:128",#[⟨10,.data⟩,⟨8,.data⟩,⟨6,.chain⟩,⟨0,.phase⟩,⟨1,.phase⟩,⟨2,.phase⟩,⟨3,.phase⟩,⟨4,.phase⟩,⟨5,.phase⟩,⟨6,.phase⟩,⟨7,.phase⟩,⟨8,.phase⟩,⟨9,.textOnly .lateStores⟩,⟨10,.phase⟩],none⟩) rfl (fun Kx hK => ?_) AllReadyH.nil
    go_simp
    clear r0 r1 r2 r3 g0 g1 g2 g3
    obtain⟨y0,y1,y2,y3⟩:=set4V (y0:=.int .i64 va) (y1:=.int .i64 vb) (y2:=.int .i64 vc) (y3:=.string ⟨vs.toArray⟩) nz10003.out
    have KE:=hD (((((K10003.out).setCell (p:=⟨B10003,0,none⟩) hB10003 (.int .i64 va)).setCell (p:=⟨B10003,1,none⟩) hB10003 (.int .i64 vb)).setCell (p:=⟨B10003,2,none⟩) hB10003 (.int .i64 vc)).setCell (p:=⟨B10003,3,none⟩) hB10003 (.string ⟨vs.toArray⟩))
    refine hK.out _ _ ?_ (fun hHeld2 => ?_)
    ·exact heldB_up KE.out D0.out
    clear hK Kx hHeld
    have hHeld:=hHeld2
    clear hHeld2
    refine wpAnyH_take (i:=12) (oi:=⟨some 12,.assign (.tmp 94),4,"law.go:128",#[⟨9,.data⟩,⟨11,.chain⟩,⟨0,.phase⟩,⟨1,.phase⟩,⟨2,.phase⟩,⟨3,.phase⟩,⟨4,.phase⟩,⟨5,.phase⟩,⟨6,.phase⟩,⟨7,.phase⟩,⟨8,.phase⟩,⟨9,.phase⟩,⟨10,.phase⟩,⟨11,.phase⟩],none⟩) (v:=?_) rfl (by as_aux_lemma => kernel_rfl) (by as_aux_lemma => kernel_rfl) (by as_aux_lemma => kernel_rfl) (fun _ _ _ h => h) (Or.inl ⟨by rfl,?_⟩) (by assumption) ?_
    rotate_left
    ·intro w' hSw
     try dsimp only at hSw
     go_simp
     try with_reducible rfl
    try simp only [Act.put,List.setIfInBounds_toArray,List.set_cons_zero,List.set_cons_succ]
    refine wpAnyH_done (by kernel_rfl) ?_ _
    go_wp2_with fail
    go_meet
    exact⟨B10003,rfl,rfl,hD (cellsAt_four y0 y1 y2 y3),KE⟩
   ·go_simp
    refine hK.out _ _ ?_ (fun hHeld2 => ?_)
    ·exact heldB_up (below2Z K10001.out (bl_newZ _ _)) D0.out
    clear hK Kx hHeld
    have hHeld:=hHeld2
    clear hHeld2
    try simp only [Act.put,List.setIfInBounds_toArray,List.set_cons_zero,List.set_cons_succ]
    have bz10005:=bl_newZ z10001 (.cells #[.int .i64 0,.int .i64 0,.int .i64 0,.string ⟨#[]⟩] 30)
    have K10005:=hD (below2Z K10001.out bz10005)
    have D10005:=hD (heldB_up K10005.out D0.out)
    have nz10005:=hD ((MapKept.heap_alloc z10001 (.cells #[.int .i64 0,.int .i64 0,.int .i64 0,.string ⟨#[]⟩] 30)).1)
    have hB10005:w14.heap.size≤z10001.heap.size:=(K10001.out).size
    replace A1:=hD (Tab.later A1.out bz10005)
    clear bz10005
    generalize z10001.alloc (.cells #[.int .i64 0,.int .i64 0,.int .i64 0,.string ⟨#[]⟩] 30)=z10005 at K10005 D10005 nz10005 A1 hHeld ⊢
    generalize z10001.heap.size=B10005 at nz10005 hB10005  ⊢
    refine wpAnyH_ready (rs:=[6]) (by as_aux_lemma => kernel_rfl) (by simp) ?_
    refine AllReadyH.cons (o:=⟨some 92,.call { callee:=.value (.func 28),args:=#[.tmp 89,.tmp 91],argTypes:=#[34,9] },31,"law.go:128",#[⟨3,.data⟩,⟨5,.data⟩,⟨3,.chain⟩],none⟩) rfl (fun Kx hK => ?_) AllReadyH.nil
    go_simp
    refine (diget_eqV A1.out c HG).mono ?_
    rintro e z10006 ⟨rfl,bz10006⟩
    have K10006:=hD (below2Z K10005.out bz10006)
    have D10006:=hD (heldB_up K10006.out D0.out)
    replace A1:=hD (Tab.later A1.out bz10006)
    replace nz10005:=hD (((bz10006).block _ (Array.getElem?_eq_some_iff.1 (nz10005.out)).1).trans (nz10005.out))
    clear bz10006
    go_wp2_with fail
    refine hK.out _ _ ?_ (fun hHeld2 => ?_)
    ·exact D10006.out
    clear hK Kx hHeld
    have hHeld:=hHeld2
    clear hHeld2
    try simp only [Act.put,List.setIfInBounds_toArray,List.set_cons_zero,List.set_cons_succ]
    refine wpAnyH_take (i:=7) (oi:=⟨some 85,.move (.tmp 92),31,"law.go:128",#[⟨6,.data⟩],none⟩) (v:=?_) rfl (by as_aux_lemma => kernel_rfl) (by as_aux_lemma => kernel_rfl) (by as_aux_lemma => kernel_rfl) (fun _ _ _ h => h) (Or.inl ⟨by rfl,?_⟩) (by assumption) ?_
    rotate_left
    ·intro w' hSw
     try dsimp only at hSw
     go_simp
     try with_reducible rfl
    try simp only [Act.put,List.setIfInBounds_toArray,List.set_cons_zero,List.set_cons_succ]
    refine wpAnyH_take (i:=8) (oi:=⟨some 93,.extract (.tmp 85) 0,30,"law.go:128",#[⟨7,.data⟩],none⟩) (v:=?_) rfl (by as_aux_lemma => kernel_rfl) (by as_aux_lemma => kernel_rfl) (by as_aux_lemma => kernel_rfl) (fun _ _ _ h => h) (Or.inl ⟨by rfl,?_⟩) (by assumption) ?_
    rotate_left
    ·intro w' hSw
     try dsimp only at hSw
     go_simp
     try with_reducible rfl
    try simp only [Act.put,List.setIfInBounds_toArray,List.set_cons_zero,List.set_cons_succ]
    refine wpAnyH_take (i:=9) (oi:=⟨some 94,.extract (.tmp 85) 1,4,"law.go:128",#[⟨7,.data⟩,⟨11,.gcOnly .lateStores⟩],none⟩) (v:=?_) rfl (by as_aux_lemma => kernel_rfl) (by as_aux_lemma => kernel_rfl) (by as_aux_lemma => kernel_rfl) (fun _ _ _ h => h) (Or.inl ⟨by rfl,?_⟩) (by assumption) ?_
    rotate_left
    ·intro w' hSw
     try dsimp only at hSw
     go_simp
     try with_reducible rfl
    try simp only [Act.put,List.setIfInBounds_toArray,List.set_cons_zero,List.set_cons_succ]
    obtain⟨⟨r0,r1,r2,r3⟩,⟨g0,g1,g2,g3⟩⟩:=res4_cells (show Res4 z10006 B10005 from nz10005.out)
    refine wpAnyH_ready (rs:=[11]) (by as_aux_lemma => kernel_rfl) (by simp) ?_
    refine AllReadyH.cons (o:=⟨none,.store 30 (.tmp 11) (.tmp 93),0,"law.go:128",#[⟨10,.data⟩,⟨8,.data⟩,⟨6,.chain⟩,⟨0,.phase⟩,⟨1,.phase⟩,⟨2,.phase⟩,⟨3,.phase⟩,⟨4,.phase⟩,⟨5,.phase⟩,⟨6,.phase⟩,⟨7,.phase⟩,⟨8,.phase⟩,⟨9,.textOnly .lateStores⟩,⟨10,.phase⟩],none⟩) rfl (fun Kx hK => ?_) AllReadyH.nil
    go_simp
    clear r0 r1 r2 r3 g0 g1 g2 g3
    obtain⟨y0,y1,y2,y3⟩:=set4V (y0:=.int .i64 va) (y1:=.int .i64 vb) (y2:=.int .i64 vc) (y3:=.string ⟨vs.toArray⟩) nz10005.out
    have KE:=hD (((((K10006.out).setCell (p:=⟨B10005,0,none⟩) hB10005 (.int .i64 va)).setCell (p:=⟨B10005,1,none⟩) hB10005 (.int .i64 vb)).setCell (p:=⟨B10005,2,none⟩) hB10005 (.int .i64 vc)).setCell (p:=⟨B10005,3,none⟩) hB10005 (.string ⟨vs.toArray⟩))
    refine hK.out _ _ ?_ (fun hHeld2 => ?_)
    ·exact heldB_up KE.out D0.out
    clear hK Kx hHeld
    have hHeld:=hHeld2
    clear hHeld2
    refine wpAnyH_take (i:=12) (oi:=⟨some 12,.assign (.tmp 94),4,"law.go:128",#[⟨9,.data⟩,⟨11,.chain⟩,⟨0,.phase⟩,⟨1,.phase⟩,⟨2,.phase⟩,⟨3,.phase⟩,⟨4,.phase⟩,⟨5,.phase⟩,⟨6,.phase⟩,⟨7,.phase⟩,⟨8,.phase⟩,⟨9,.phase⟩,⟨10,.phase⟩,⟨11,.phase⟩],none⟩) (v:=?_) rfl (by as_aux_lemma => kernel_rfl) (by as_aux_lemma => kernel_rfl) (by as_aux_lemma => kernel_rfl) (fun _ _ _ h => h) (Or.inl ⟨by rfl,?_⟩) (by assumption) ?_
    rotate_left
    ·intro w' hSw
     try dsimp only at hSw
     go_simp
     try with_reducible rfl
    try simp only [Act.put,List.setIfInBounds_toArray,List.set_cons_zero,List.set_cons_succ]
    refine wpAnyH_done (by kernel_rfl) ?_ _
    go_wp2_with fail
    go_meet
    exact⟨B10005,rfl,rfl,hD (cellsAt_four y0 y1 y2 y3),KE⟩
  ·go_simp
   refine hK.out _ _ ?_ (fun hHeld2 => ?_)
   ·exact heldB_up (below2Z K0.out (bl_newZ _ _)) D0.out
   clear hK Kx hHeld
   have hHeld:=hHeld2
   clear hHeld2
   try simp only [Act.put,List.setIfInBounds_toArray,List.set_cons_zero,List.set_cons_succ]
   have bz10008:=bl_newZ z0 (.cells #[.int .i64 0,.int .i64 0,.int .i64 0,.string ⟨#[]⟩] 30)
   have K10008:=hD (below2Z K0.out bz10008)
   have D10008:=hD (heldB_up K10008.out D0.out)
   have nz10008:=hD ((MapKept.heap_alloc z0 (.cells #[.int .i64 0,.int .i64 0,.int .i64 0,.string ⟨#[]⟩] 30)).1)
   have hB10008:w14.heap.size≤z0.heap.size:=(K0.out).size
   clear bz10008
   generalize z0.alloc (.cells #[.int .i64 0,.int .i64 0,.int .i64 0,.string ⟨#[]⟩] 30)=z10008 at K10008 D10008 nz10008 hHeld ⊢
   generalize z0.heap.size=B10008 at nz10008 hB10008  ⊢
   refine wpAnyH_ready (rs:=[3]) (by as_aux_lemma => kernel_rfl) (by simp) ?_
   refine AllReadyH.cons (o:=⟨some 89,.call { callee:=.value (.func 18),args:=#[.tmp 86,.tmp 88],argTypes:=#[25,9] },34,"law.go:128",#[⟨0,.data⟩,⟨2,.data⟩],none⟩) rfl (fun Kx hK => ?_) AllReadyH.nil
   go_simp
   refine (vwof_any (K.out.later K10008.out) KOK.out hle u).mono ?_
   rintro e z10009 ⟨vA1,rfl,hA1,bz10009⟩
   have K10009:=hD (below2Z K10008.out bz10009)
   have D10009:=hD (heldB_up K10009.out D0.out)
   replace nz10008:=hD (((bz10009).block _ (Array.getElem?_eq_some_iff.1 (nz10008.out)).1).trans (nz10008.out))
   have A1:=hD hA1.tab
   clear hA1
   clear bz10009
   go_wp2_with fail
   refine hK.out _ _ ?_ (fun hHeld2 => ?_)
   ·exact D10009.out
   clear hK Kx hHeld
   have hHeld:=hHeld2
   clear hHeld2
   try simp only [Act.put,List.setIfInBounds_toArray,List.set_cons_zero,List.set_cons_succ]
   refine wpAnyH_ready (rs:=[6]) (by as_aux_lemma => kernel_rfl) (by simp) ?_
   refine AllReadyH.cons (o:=⟨some 92,.call { callee:=.value (.func 28),args:=#[.tmp 89,.tmp 91],argTypes:=#[34,9] },31,"law.go:128",#[⟨3,.data⟩,⟨5,.data⟩,⟨3,.chain⟩],none⟩) rfl (fun Kx hK => ?_) AllReadyH.nil
   go_simp
   refine (diget_eqV A1.out c HG).mono ?_
   rintro e z10010 ⟨rfl,bz10010⟩
   have K10010:=hD (below2Z K10009.out bz10010)
   have D10010:=hD (heldB_up K10010.out D0.out)
   replace nz10008:=hD (((bz10010).block _ (Array.getElem?_eq_some_iff.1 (nz10008.out)).1).trans (nz10008.out))
   replace A1:=hD (Tab.later A1.out bz10010)
   clear bz10010
   go_wp2_with fail
   refine hK.out _ _ ?_ (fun hHeld2 => ?_)
   ·exact D10010.out
   clear hK Kx hHeld
   have hHeld:=hHeld2
   clear hHeld2
   try simp only [Act.put,List.setIfInBounds_toArray,List.set_cons_zero,List.set_cons_succ]
   refine wpAnyH_take (i:=7) (oi:=⟨some 85,.move (.tmp 92),31,"law.go:128",#[⟨6,.data⟩],none⟩) (v:=?_) rfl (by as_aux_lemma => kernel_rfl) (by as_aux_lemma => kernel_rfl) (by as_aux_lemma => kernel_rfl) (fun _ _ _ h => h) (Or.inl ⟨by rfl,?_⟩) (by assumption) ?_
   rotate_left
   ·intro w' hSw
    try dsimp only at hSw
    go_simp
    try with_reducible rfl
   try simp only [Act.put,List.setIfInBounds_toArray,List.set_cons_zero,List.set_cons_succ]
   refine wpAnyH_take (i:=8) (oi:=⟨some 93,.extract (.tmp 85) 0,30,"law.go:128",#[⟨7,.data⟩],none⟩) (v:=?_) rfl (by as_aux_lemma => kernel_rfl) (by as_aux_lemma => kernel_rfl) (by as_aux_lemma => kernel_rfl) (fun _ _ _ h => h) (Or.inl ⟨by rfl,?_⟩) (by assumption) ?_
   rotate_left
   ·intro w' hSw
    try dsimp only at hSw
    go_simp
    try with_reducible rfl
   try simp only [Act.put,List.setIfInBounds_toArray,List.set_cons_zero,List.set_cons_succ]
   refine wpAnyH_take (i:=9) (oi:=⟨some 94,.extract (.tmp 85) 1,4,"law.go:128",#[⟨7,.data⟩,⟨11,.gcOnly .lateStores⟩],none⟩) (v:=?_) rfl (by as_aux_lemma => kernel_rfl) (by as_aux_lemma => kernel_rfl) (by as_aux_lemma => kernel_rfl) (fun _ _ _ h => h) (Or.inl ⟨by rfl,?_⟩) (by assumption) ?_
   rotate_left
   ·intro w' hSw
    try dsimp only at hSw
    go_simp
    try with_reducible rfl
   try simp only [Act.put,List.setIfInBounds_toArray,List.set_cons_zero,List.set_cons_succ]
   obtain⟨⟨r0,r1,r2,r3⟩,⟨g0,g1,g2,g3⟩⟩:=res4_cells (show Res4 z10010 B10008 from nz10008.out)
   refine wpAnyH_ready (rs:=[11]) (by as_aux_lemma => kernel_rfl) (by simp) ?_
   refine AllReadyH.cons (o:=⟨none,.store 30 (.tmp 11) (.tmp 93),0,"law.go:128",#[⟨10,.data⟩,⟨8,.data⟩,⟨6,.chain⟩,⟨0,.phase⟩,⟨1,.phase⟩,⟨2,.phase⟩,⟨3,.phase⟩,⟨4,.phase⟩,⟨5,.phase⟩,⟨6,.phase⟩,⟨7,.phase⟩,⟨8,.phase⟩,⟨9,.textOnly .lateStores⟩,⟨10,.phase⟩],none⟩) rfl (fun Kx hK => ?_) AllReadyH.nil
   go_simp
   clear r0 r1 r2 r3 g0 g1 g2 g3
   obtain⟨y0,y1,y2,y3⟩:=set4V (y0:=.int .i64 va) (y1:=.int .i64 vb) (y2:=.int .i64 vc) (y3:=.string ⟨vs.toArray⟩) nz10008.out
   have KE:=hD (((((K10010.out).setCell (p:=⟨B10008,0,none⟩) hB10008 (.int .i64 va)).setCell (p:=⟨B10008,1,none⟩) hB10008 (.int .i64 vb)).setCell (p:=⟨B10008,2,none⟩) hB10008 (.int .i64 vc)).setCell (p:=⟨B10008,3,none⟩) hB10008 (.string ⟨vs.toArray⟩))
   refine hK.out _ _ ?_ (fun hHeld2 => ?_)
   ·exact heldB_up KE.out D0.out
   clear hK Kx hHeld
   have hHeld:=hHeld2
   clear hHeld2
   refine wpAnyH_take (i:=12) (oi:=⟨some 12,.assign (.tmp 94),4,"law.go:128",#[⟨9,.data⟩,⟨11,.chain⟩,⟨0,.phase⟩,⟨1,.phase⟩,⟨2,.phase⟩,⟨3,.phase⟩,⟨4,.phase⟩,⟨5,.phase⟩,⟨6,.phase⟩,⟨7,.phase⟩,⟨8,.phase⟩,⟨9,.phase⟩,⟨10,.phase⟩,⟨11,.phase⟩],none⟩) (v:=?_) rfl (by as_aux_lemma => kernel_rfl) (by as_aux_lemma => kernel_rfl) (by as_aux_lemma => kernel_rfl) (fun _ _ _ h => h) (Or.inl ⟨by rfl,?_⟩) (by assumption) ?_
   rotate_left
   ·intro w' hSw
    try dsimp only at hSw
    go_simp
    try with_reducible rfl
   try simp only [Act.put,List.setIfInBounds_toArray,List.set_cons_zero,List.set_cons_succ]
   refine wpAnyH_done (by kernel_rfl) ?_ _
   go_wp2_with fail
   go_meet
   exact⟨B10008,rfl,rfl,hD (cellsAt_four y0 y1 y2 y3),KE⟩
 case rest =>
  obtain⟨BKV,rfl,rfl,KV,KB15⟩:=hcut
  obtain⟨w15,hw15⟩ : ∃ X,X=wc:=⟨_,rfl⟩
  subst hw15
  replace SB:=hD (upQ SB.out KB15.out)
  replace EB:=hD (upQ EB.out KB15.out)
  replace TB:=hD (upQ TB.out KB15.out)
  replace H:=hD (H.out.later KB15.out)
  replace K:=hD (K.out.later KB15.out)
  replace HB:=hD (below2Z HB.out KB15.out)
  clear KB15
  obtain⟨⟨TBc0,TBc1⟩,⟨TBf0,TBf1⟩⟩:=blk2 TB.out
  obtain⟨⟨EBc0,EBc1,EBc2,EBc3,EBc4,EBc5,EBc6,EBc7⟩,⟨EBf0,EBf1,EBf2,EBf3,EBf4,EBf5,EBf6,EBf7⟩⟩:=blk8 EB.out
  go_wp2_with fail
  clear TBc0 TBc1 TBf0 TBf1 EBc0 EBc1 EBc2 EBc3 EBc4 EBc5 EBc6 EBc7 EBf0 EBf1 EBf2 EBf3 EBf4 EBf5 EBf6 EBf7
  refine (vwwat_any K.out KOK.out hle c).mono ?_
  rintro e w16 ⟨vA2,rfl,hA2,b16⟩
  replace SB:=hD (upQ SB.out b16)
  replace EB:=hD (upQ EB.out b16)
  replace TB:=hD (upQ TB.out b16)
  replace H:=hD (H.out.later b16)
  replace K:=hD (K.out.later b16)
  replace KV:=hD (CellsAt.later KV.out b16)
  replace HB:=hD (below2Z HB.out b16)
  obtain⟨a2,c2,rfl⟩:=texts_shape hA2 NW.out
  have A2:=hD hA2
  clear hA2
  clear b16
  clear SB
  go_wp2_with fail
  go_loopw [14] (fun i wr => ∃ k:Nat,k≤nw∧i=.int .i64 k∧Hid (Below w16.heap.size w16 wr)) (fun i _ => nw - (intOf i).toNat)
  case atStart => exact⟨0,by omega,rfl,Below.refl _ _⟩
  case round =>
   obtain⟨k,hk,rfl,HN⟩:=hrel
   by_cases hlt:k < nw
   ·obtain⟨b,off,rfl,hcc⟩:=A2.out.cell HN.out k (by rw [NW.out]; exact hlt)
    have hmem:(vwWat t c).getD k [] ∈ vwWat t c:=by rw [List.getD_eq_getElem?_getD,List.getElem?_eq_getElem (by rw [NW.out]; exact hlt)]; exact List.getElem_mem _
    obtain⟨z,hz⟩ : ∃ z,(vwWat t c).getD k []=z:=⟨_,rfl⟩
    rw [hz] at hcc hmem
    have hzr:=HR.out z hmem
    have EBW:=hD (upQ EB.out HN.out)
    have hkn:(0:Int)≤(k:Int):=by omega
    have hki:(k:Int) < (nw:Int):=by omega
    have B5:=hD HN.out.drew
    clear hz hmem
    obtain⟨⟨e0,e1,e2_,e3,e4,e5,e6,e7⟩,⟨g0,g1,g2,g3,g4,g5,g6,g7⟩⟩:=blk8 EBW.out
    have hbz:(z == u)=false:=by rw [beq_eq_false_iff_ne]; intro e; have:=hzr e; cases this
    clear hzr
    go_wp2_with fail
    go_region
    all_goals go_wp2_with fail
    all_goals go_roundw
    case rel => exact⟨k+1,by omega,by go_num,B5⟩
    case measure => simp [intOf]; omega
   ·obtain rfl:k=nw:=by omega
    replace HB:=hD (below2Z HB.out HN.out)
    go_wp2_with fail
    refine (live15 _).mono ?_
    rintro e w17 ⟨rfl,b17⟩
    replace HB:=hD (below2Z HB.out b17)
    clear b17
    go_wp2_with fail
    go_ret
    exact⟨rfl,HB.out⟩

theorem walkViewBlocks {w:World} {x y:Value} {s:Sta} (h:StAt w x y s) (_:∀ r ∈ s.s,SesFit r) (e:Ev) (_:evFit e) :
  Calls Tryz.prog 7 #[.agg #[x,y],.agg #[.int .i64 e.k,.string ⟨e.u.toArray⟩,.string ⟨e.o.toArray⟩,.int .i64 e.id,.int .i64 e.v.sh,.int .i64 e.v.pr,.int .i64 e.v.si,.string ⟨e.v.st.toArray⟩]] w fun z w' => z=.returned (.bool true)∧Below w.heap.size w w':=by
 obtain⟨kk,u,c,id,⟨ea,eb,ed,es⟩⟩:=e
 cases f1:fewSta s with
 | false => exact vbl_1 h kk u c es id ea eb ed f1
 | true =>
 cases f2:stMay s with
 | false => exact vbl_2 h kk u c es id ea eb ed f1 f2
 | true =>
 cases f3:shortEv ⟨kk,u,c,id,⟨ea,eb,ed,es⟩⟩ with
 | false => exact vbl_3 h kk u c es id ea eb ed f1 f2 f3
 | true =>
 by_cases k3:kk < 3
 ·exact vbl_4 h kk u c es id ea eb ed f1 f2 f3 k3
 by_cases k5:5 < kk
 ·exact vbl_5 h kk u c es id ea eb ed f1 f2 f3 k3 k5
 obtain⟨⟨t,n⟩,hap⟩ : ∃ p,stApply s ⟨kk,u,c,id,⟨ea,eb,ed,es⟩⟩=p:=⟨_,rfl⟩
 cases n with
 | succ n => exact vbl_6 h kk u c es id ea eb ed f1 f2 f3 (by omega) (by omega) hap (Nat.succ_pos n)
 | zero =>
  have hk:kk=3∨kk=4∨kk=5:=by omega
  rcases hk with rfl | rfl | rfl
  ·exact vbl_k3 h u c es id ea eb ed f1 f2 f3 hap
  ·exact vbl_k4 h u c es id ea eb ed f1 f2 f3 hap
  ·exact vbl_k5 h u c es id ea eb ed f1 f2 f3 hap

end Go.Proofs.YtphfinlfabklmaaGreat

end

section

namespace Go.Proofs.YtphfinlfabklmaaGreat.viewBlocks
open Go.ChangeShapes Go.WideShapes Go.ChangeAt Go.RowKit
open Go.ChangeMaps (open_string shut_string)
set_option linter.unusedVariables false

theorem own:ownKnob Tryz.prog.godebug=none:=by kernel_rfl
theorem laidOut:laidOutB Tryz.prog=true:=by kernel_rfl

theorem lifted (os:Os) (started:os.Started) (H:Type) (enc:TypeId × Value→H) :
  ReturnsInHanded {} Tryz.checked os 7 .any (Rows.viewBlocksSpec.pre6 enc Tryz.prog Tryz.f7 Rows.viewBlocksRow.domain false) (Rows.viewBlocksSpec.post enc Tryz.prog Tryz.f7 false true false false):=by
 refine returnsInHanded_of_change (C:=Tryz.checked) own started (by kernel_rfl) Tryz.func7
  (ChangeSpec.witness6 (enc:=enc) (C:=Tryz.checked) false ⟨#[],#[.agg #[.slice none 0 0,.slice none 0 0],.agg #[.int .i64 0,.string ByteArray.empty,.string ByteArray.empty,.int .i64 0,.int .i64 0,.int .i64 0,.int .i64 0,.string ByteArray.empty]],[]⟩ 8 (by kernel_rfl) (by kernel_rfl) (by kernel_rfl) (by kernel_rfl)) ?_
 intro W base args ds gs before hval0 hW hcnd _
 have hval:∀ (j:Nat) t v,Tryz.f7.params[j]?=some t→args[j]?=some v→Value.okWide Tryz.prog W .any base t v:=hval0
 have hW':=hW
 obtain⟨p,q,hA0,hV,rfl,hfz,hnd⟩:=hW
 have hA:DataW.TrodAll enc Tryz.prog W 0 (fun _ => true) true Tryz.f7.params.toList args.toList ds p:=hA0
 rw [Tryz.params7] at hA hval
 obtain⟨v0,vs0,d0,ds0,p0,q0,hargs,rfl,rfl,h0,r0⟩:=trodAll_cons hA
 obtain⟨v1,vs1,d1,ds1,p1,q1,rfl,rfl,rfl,h1,r1⟩:=trodAll_cons r0
 obtain⟨rfl,rfl,rfl⟩:=trodAll_nil r1
 obtain rfl:args=#[v0,v1]:=by cases args; simp_all
 obtain⟨rfl,rfl⟩:=trodVars_none hV
 have k0:=h0
 have lt0:∀ x ∈ p0,x.block < W.heap.size:=by obtain⟨m,hm⟩:=k0; exact DataW.trod_lt m _ _ _ hm
 obtain⟨x0,y0,l0,rfl,w0,f0⟩:=open_sta (hval 0 25 v0 rfl rfl) h0
 have k1:=h1
 have lt1:∀ x ∈ p1,x.block < W.heap.size:=by obtain⟨m,hm⟩:=k1; exact DataW.trod_lt m _ _ _ hm
 obtain⟨a1,rfl,w1⟩:=open_ev (hval 1 50 v1 rfl rfl) h1
 clear hA0 hval0
 refine (walkViewBlocks (w:=W) w0 f0 a1 w1).mono fun e W' ⟨he,bel⟩ => ?_
 subst he
 exact⟨_,rfl,_,_,_,[],_,[],hW',trodAll_mk1 (shut_bool Tryz.underlying4 _),(trodAll_cons_mk (Below.trod laidOut (by kernel_rfl) (of_decide_eq_true (by kernel_rfl)) k0 bel lt0) (trodAll_cons_mk (Below.trod laidOut (by kernel_rfl) (of_decide_eq_true (by kernel_rfl)) k1 bel lt1) trodAll_mk0)),rfl,bel.frame _,fun h => by cases h⟩

theorem over:Rows.viewBlocksRow.holds Tryz.pinned (OpenSpec.ofChange Rows.viewBlocksSpec) :=
 OpenClaim.holds_of_wide 7 Tryz.f7 rfl rfl rfl rfl rfl rfl rfl ⟨rfl,rfl,rfl,rfl,rfl⟩ rfl rfl rfl rfl rfl (by kernel_rfl) Tryz.func7 (by kernel_rfl)
  (of_decide_eq_true (by kernel_rfl)) (by unfold Func.isWrapper; first | (rw [if_pos (by decide +kernel)]; kernel_rfl) | (rw [if_neg (by decide +kernel)]; exact⟨rfl,rfl⟩))
  (fun os started H enc _ => lifted os started H enc)

theorem proved:Rows.ViewBlocksSaid:=over
#print axioms proved
end Go.Proofs.YtphfinlfabklmaaGreat.viewBlocks

end
