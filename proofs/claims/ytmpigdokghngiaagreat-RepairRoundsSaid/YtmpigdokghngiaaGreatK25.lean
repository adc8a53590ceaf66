/-
 TEXTS OF THE PROOF, one behind the other: RepLive.
-/
import Derived.Test.YtmpigdokghngiaaGreatK24
import Derived.Test.YtmpigdokghngiaaGreatK19
import Derived.Test.YtmpigdokghngiaaGreatK20
import Derived.Test.YtmpigdokghngiaaGreatK05

set_option maxHeartbeats 12800000
set_option maxRecDepth 100000

namespace Go.Proofs.YtmpigdokghngiaaGreat
open Go.RowKit

theorem tab_oneR {W:World} {B:Nat} {c st:List UInt8} {a b d:Int} (h:W.heap[B]?=some (.cells #[.string ⟨c.toArray⟩,.int .i64 a,.int .i64 b,.int .i64 d,.string ⟨st.toArray⟩] 73 (0,0))):Tab W (.slice (some ⟨B,0,none⟩) 1 1) [⟨c,⟨a,b,d,st⟩⟩]:=by
 have h:=cellsAt_block h
 refine ⟨_,1,rfl,by simp,by decide,(fun e => by cases e),.inr ⟨B,0,rfl,World.block_lt_of_cell? W _ (h 0 _ rfl),fun i hi => ?_⟩⟩
 obtain rfl:i=0:=by simpa using hi
 exact⟨h 0 _ rfl,h 1 _ rfl,h 2 _ rfl,h 3 _ rfl,h 4 _ rfl⟩

theorem tab_nilR (X:World):Tab X (.slice none 0 0) []:=OwnR.tab (ownR_nil X 0)

theorem short_nilR:Short []:=fun r h => by cases h

def rpV:List Row:=[⟨[97],⟨4,0,0,[]⟩⟩]
def rpS:List UInt8:=cseal (frPlain ⟨4,1,false,[],⟨0,0,0,[]⟩,0,[]⟩)
theorem rl_n:Hid (lnNew ⟨1,1,1,5⟩ 0=(⟨0,⟨[],false⟩,⟨1,0⟩,true,0⟩,0)):=by show _=_; kernel_rfl
theorem rl_a:Hid (rpRound ⟨1,1,1,5⟩ rpV 0 (⟨0,⟨[],false⟩,⟨1,0⟩,true,0⟩,⟨[],0,false⟩)=(⟨1,⟨[],false⟩,⟨0,0⟩,false,0⟩,⟨rpV,1,false⟩)):=by show _=_; kernel_rfl
theorem rl_z:Hid (rpSettle ⟨1,1,1,5⟩ rpV (min (5:Int) 3000).toNat 0 (⟨1,⟨[],false⟩,⟨0,0⟩,false,0⟩,⟨[],1,false⟩)=(⟨2,⟨[],false⟩,⟨0,5⟩,true,5⟩,⟨[],2,true⟩)):=by show _=_; kernel_rfl
theorem rl_w:Hid (rpSettle ⟨1,1,1,5⟩ rpV (min (1:Int) 3000).toNat 5 (⟨2,⟨[],false⟩,⟨0,5⟩,true,5⟩,⟨[],2,true⟩)=(⟨3,⟨[],false⟩,⟨0,6⟩,false,6⟩,⟨rpV,3,false⟩)):=by show _=_; kernel_rfl
theorem rl_r:Hid (frDec rpS=(⟨4,1,false,[],⟨0,0,0,[]⟩,0,[]⟩,0)):=by show _=_; kernel_rfl
theorem rl_s:Hid (rpSynced (⟨1,⟨[],false⟩,⟨0,0⟩,false,0⟩,⟨rpV,1,false⟩) rpV=true):=by show _=_; kernel_rfl
theorem rl_t:Hid (rpSynced (⟨1,⟨[],false⟩,⟨0,0⟩,false,0⟩,⟨[],1,false⟩) rpV=false):=by show _=_; kernel_rfl
theorem rl_u:Hid (rpSynced (⟨3,⟨[],false⟩,⟨0,6⟩,false,6⟩,⟨rpV,3,false⟩) rpV=true):=by show _=_; kernel_rfl
theorem rl_b:Hid (rpBound ⟨1,1,1,5⟩=8):=by show _=_; kernel_rfl
theorem rl_c:Hid (rpBound ⟨0,0,0,0⟩=0):=by show _=_; kernel_rfl
theorem rl_x:Hid (copen [120]=([],2)∧¬ 2=0):=⟨by kernel_rfl,by decide⟩
theorem rl_v:Short rpV:=by intro r hr; simp only [rpV,List.mem_singleton] at hr; subst hr; exact⟨by decide,by decide⟩
theorem rl_q:ShortC []:=fun x hx => by cases hx
theorem rl_l:rpS.length≤4294967296:=by unfold rpS; rw [seal_lenP]; decide
theorem tab_shapeV {w:World} {v:Value} (h:Tab w v rpV):∃ a c,v=.slice a 1 c:=by
 obtain⟨a,c,e,-⟩:=h.open'
 exact⟨a,c,e⟩
theorem tab_shapeN {w:World} {v:Value} (h:Tab w v []):∃ a c,v=.slice a 0 c:=by
 obtain⟨a,c,e,-⟩:=h.open'
 exact⟨a,c,e⟩
theorem chg_shapeN {w:World} {v:Value} (h:Chgs w v []):∃ a c,v=.slice a 0 c:=by
 obtain⟨a,c,e,-⟩:=h.open'
 exact⟨a,c,e⟩
theorem rpbound_v {ca cb cd ce:Int} {r:Int} (h:Hid (rpBound ⟨ca,cb,cd,ce⟩=r)) (w:World):Calls Tryz.prog 20 #[.agg #[.int .i64 ca,.int .i64 cb,.int .i64 cd,.int .i64 ce]] w fun e w' => e=.returned (.int .i64 r)∧Below w.heap.size w w':=by
 rw [← h.out]
 exact rpbound_any ca cb cd ce w

theorem rplain_r (w:World):Calls Tryz.prog 55 #[.agg #[.int .i64 4,.int .i64 1,.bool false,.string ⟨#[]⟩,.int .i64 0,.int .i64 0,.int .i64 0,.string ⟨#[]⟩,.int .u64 0,.slice none 0 0]] w fun e w' => e=.returned (.string ⟨(frPlain ⟨4,1,false,[],⟨0,0,0,[]⟩,0,[]⟩).toArray⟩)∧Below w.heap.size w w':=rplain_4 (ta:=none) (tc:=0) 1 (by decide)

theorem rfrenc_r (w:World):Calls Tryz.prog 26 #[.agg #[.int .i64 4,.int .i64 1,.bool false,.string ⟨#[]⟩,.int .i64 0,.int .i64 0,.int .i64 0,.string ⟨#[]⟩,.int .u64 0,.slice none 0 0]] w fun e w' => e=.returned (.tuple #[.string ⟨rpS.toArray⟩,.int .i64 0])∧Below w.heap.size w w':=by
 have hpl:(frPlain ⟨4,1,false,[],⟨0,0,0,[]⟩,0,[]⟩).length≤4294967296:=by decide
 obtain⟨p,hp⟩ : ∃ p,frPlain ⟨4,1,false,[],⟨0,0,0,[]⟩,0,[]⟩=p:=⟨_,rfl⟩
 have HPL:=hZq (rplain_r)
 rw [hp] at hpl HPL
 have HP:=hZq hp
 clear hp
 obtain⟨FB,HB⟩:=ent1 w (.cells #[.int .i64 4,.int .i64 1,.bool false,.string ⟨#[]⟩,.int .i64 0,.int .i64 0,.int .i64 0,.string ⟨#[]⟩,.int .u64 0,.slice none 0 0] 56)
 go_enter Tryz.func26,Tryz.ntmps26
 go_wp2_with (with_reducible refine ldA aggFrame _ rfl rfl (w.heap.size) 0 rfl FB.out [.int .i64 4,.int .i64 1,.bool false,.string ⟨#[]⟩,.int .i64 0,.int .i64 0,.int .i64 0,.string ⟨#[]⟩,.int .u64 0,.slice none 0 0] rfl rfl ?_)
 refine (rfm_4z (tab_nilR _) (by decide) (by decide)).mono ?_
 rintro e w1 ⟨rfl,b1⟩
 replace FB:=hZq (upQ FB.out b1)
 replace HB:=hZq (below2Z HB.out b1)
 clear b1
 go_wp2_with (with_reducible refine ldA aggFrame _ rfl rfl (w.heap.size) 0 rfl FB.out [.int .i64 4,.int .i64 1,.bool false,.string ⟨#[]⟩,.int .i64 0,.int .i64 0,.int .i64 0,.string ⟨#[]⟩,.int .u64 0,.slice none 0 0] rfl rfl ?_)
 refine (HPL.out _).mono ?_
 rintro e w2 ⟨rfl,b2⟩
 replace FB:=hZq (upQ FB.out b2)
 replace HB:=hZq (below2Z HB.out b2)
 clear b2
 go_wp2_with fail
 refine (rseal_any p hpl _).mono ?_
 rintro e w3 ⟨rfl,b3⟩
 replace FB:=hZq (upQ FB.out b3)
 replace HB:=hZq (below2Z HB.out b3)
 clear b3
 go_wp2_with fail
 go_ret2
 exact⟨by rw [show rpS=cseal p by rw [← HP.out]; rfl]; rfl,HB.out⟩

set_option maxRecDepth 1000000 in
theorem live20 (w:World):Calls Tryz.prog 11 #[] w fun e w' => e=.returned (.bool true)∧Below w.heap.size w w':=by
 have HB:=hZq (Below.refl w.heap.size w)
 go_enter Tryz.func11,Tryz.ntmps11
 have b1:=bl_newZ w (.cells #[.int .i64 0,.int .i64 0,.int .i64 0,.int .i64 0] 23)
 have GB:=newQ w (.cells #[.int .i64 0,.int .i64 0,.int .i64 0,.int .i64 0] 23)
 have hGB:w.heap.size≤w.heap.size:=HB.out.size
 replace HB:=hZq (below2Z HB.out b1)
 clear b1
 replace GB:=hZq GB
 go_wp2_with (with_reducible refine stA aggCfg _ _ rfl rfl (w.heap.size) 0 rfl GB.out [.int .i64 1,.int .i64 1,.int .i64 1,.int .i64 5] rfl rfl (Nat.le_of_ble_eq_true rfl) rfl [.int .i64 1,.int .i64 1,.int .i64 1,.int .i64 5] rfl ?_)
 intro w2 hst
 have HBz:=hZq (hst.bel HB.out (show w.heap.size≤w.heap.size by omega))
 have GBz:=hZq hst.at'
 clear hst HB GB
 have HB:=HBz
 have GB:=GBz
 clear HBz GBz
 go_upto_region 3 with fail
 have hsGB:=(Array.getElem?_eq_some_iff.1 GB.out).1
 have b3:=bl_newZ w2 (.cells #[.string ⟨#[97]⟩,.int .i64 4,.int .i64 0,.int .i64 0,.string ⟨#[]⟩] 73)
 have VB:=newQ w2 (.cells #[.string ⟨#[97]⟩,.int .i64 4,.int .i64 0,.int .i64 0,.string ⟨#[]⟩] 73)
 have hVB:w.heap.size≤w2.heap.size:=HB.out.size
 replace GB:=hZq (upQ GB.out b3)
 replace HB:=hZq (below2Z HB.out b3)
 clear b3
 replace VB:=hZq VB
 generalize w2.alloc (.cells #[.string ⟨#[97]⟩,.int .i64 4,.int .i64 0,.int .i64 0,.string ⟨#[]⟩] 73)=w4 at GB VB HB ⊢
 have TV:Hid (Tab w4 (.slice (some ⟨w2.heap.size,0,none⟩) 1 1) rpV):=hZq (tab_oneR VB.out)
 clear VB
 clear hVB hsGB
 generalize w2.heap.size=BV at TV ⊢
 go_wp2_with (with_reducible refine ldA aggCfg _ rfl rfl (w.heap.size) 0 rfl GB.out [.int .i64 1,.int .i64 1,.int .i64 1,.int .i64 5] rfl rfl ?_)
 refine (rlnew_eq 1 1 1 5 0 rl_n _).mono ?_
 rintro e w5 ⟨rfl,b5⟩
 replace GB:=hZq (upQ GB.out b5)
 replace TV:=hZq (Tab.later TV.out b5)
 replace HB:=hZq (below2Z HB.out b5)
 clear b5
 have hsGB:=(Array.getElem?_eq_some_iff.1 GB.out).1
 have b6:=bl_newZ w5 (.cells #[.int .i64 0,.slice none 0 0,.bool false,.int .i64 0,.int .i64 0,.bool false,.int .i64 0] 30)
 have LB:=newQ w5 (.cells #[.int .i64 0,.slice none 0 0,.bool false,.int .i64 0,.int .i64 0,.bool false,.int .i64 0] 30)
 have hLB:w.heap.size≤w5.heap.size:=HB.out.size
 replace GB:=hZq (upQ GB.out b6)
 replace TV:=hZq (Tab.later TV.out b6)
 replace HB:=hZq (below2Z HB.out b6)
 clear b6
 replace LB:=hZq LB
 go_wp2_with (with_reducible refine stA aggLink _ _ rfl rfl (w5.heap.size) 0 rfl LB.out [.int .i64 0,.slice none 0 0,.bool false,.int .i64 1,.int .i64 0,.bool true,.int .i64 0] rfl rfl (Nat.le_of_ble_eq_true rfl) rfl [.int .i64 0,.slice none 0 0,.bool false,.int .i64 1,.int .i64 0,.bool true,.int .i64 0] rfl ?_)
 intro w7 hst
 have HBz:=hZq (hst.bel HB.out (show w.heap.size≤w5.heap.size by omega))
 have GBz:=hZq (hst.keep GB.out (show ¬ w.heap.size=w5.heap.size by omega))
 have LBz:=hZq hst.at'
 have TVz:=hZq (Tab.sta TV.out hst LB.out rfl)
 clear hst HB GB LB TV
 have HB:=HBz
 have GB:=GBz
 have LB:=LBz
 have TV:=TVz
 clear HBz GBz LBz TVz
 generalize w5.heap.size=BLB at LB hLB hsGB ⊢
 have dLBGB:¬ w.heap.size=BLB:=by omega
 have eLBGB:¬ BLB=w.heap.size:=by omega
 clear hsGB
 go_wp2_with fail
 refine (rfrenc_r _).mono ?_
 rintro e w8 ⟨rfl,b8⟩
 replace GB:=hZq (upQ GB.out b8)
 replace LB:=hZq (upQ LB.out b8)
 replace TV:=hZq (Tab.later TV.out b8)
 replace HB:=hZq (below2Z HB.out b8)
 clear b8
 go_wp2_with (first | (with_reducible refine ldA aggCfg _ rfl rfl (w.heap.size) 0 rfl GB.out [.int .i64 1,.int .i64 1,.int .i64 1,.int .i64 5] rfl rfl ?_) | (with_reducible refine ldA aggLink _ rfl rfl (BLB) 0 rfl LB.out [.int .i64 0,.slice none 0 0,.bool false,.int .i64 1,.int .i64 0,.bool true,.int .i64 0] rfl rfl ?_))
 refine (rpround (chgs_nilL _) (tab_nilR _) TV.out rl_q (by decide) short_nilR (by decide) rl_v 1 1 1 5 0 1 0 0 0 0 false true false rl_a).mono ?_
 rintro e w9 ⟨u,tv,rfl,hU,hT,b9⟩
 replace GB:=hZq (upQ GB.out b9)
 replace LB:=hZq (upQ LB.out b9)
 replace TV:=hZq (Tab.later TV.out b9)
 replace HB:=hZq (below2Z HB.out b9)
 obtain⟨xa,xc,rfl⟩:=chg_shapeN hU
 obtain⟨ya,yc,rfl⟩:=tab_shapeV hT
 have QX:=hZq hU
 have TX:=hZq hT
 clear hU hT
 clear b9
 have hsGB:=(Array.getElem?_eq_some_iff.1 GB.out).1
 have hsLB:=(Array.getElem?_eq_some_iff.1 LB.out).1
 have b10:=bl_newZ w9 (.cells #[.int .i64 0,.slice none 0 0,.bool false,.int .i64 0,.int .i64 0,.bool false,.int .i64 0,.slice none 0 0,.int .i64 0,.bool false] 41)
 have XS:=newQ w9 (.cells #[.int .i64 0,.slice none 0 0,.bool false,.int .i64 0,.int .i64 0,.bool false,.int .i64 0,.slice none 0 0,.int .i64 0,.bool false] 41)
 have hXS:w.heap.size≤w9.heap.size:=HB.out.size
 replace GB:=hZq (upQ GB.out b10)
 replace LB:=hZq (upQ LB.out b10)
 replace TV:=hZq (Tab.later TV.out b10)
 replace QX:=hZq (Chgs.later QX.out b10)
 replace TX:=hZq (Tab.later TX.out b10)
 replace HB:=hZq (below2Z HB.out b10)
 clear b10
 replace XS:=hZq XS
 go_wp2_with (with_reducible refine stA aggSide _ _ rfl rfl (w9.heap.size) 0 rfl XS.out [.int .i64 1,.slice xa 0 xc,.bool false,.int .i64 0,.int .i64 0,.bool false,.int .i64 0,.slice ya 1 yc,.int .i64 1,.bool false] rfl rfl (Nat.le_of_ble_eq_true rfl) rfl [.int .i64 1,.slice xa 0 xc,.bool false,.int .i64 0,.int .i64 0,.bool false,.int .i64 0,.slice ya 1 yc,.int .i64 1,.bool false] rfl ?_)
 intro w11 hst
 have HBz:=hZq (hst.bel HB.out (show w.heap.size≤w9.heap.size by omega))
 have GBz:=hZq (hst.keep GB.out (show ¬ w.heap.size=w9.heap.size by omega))
 have LBz:=hZq (hst.keep LB.out (show ¬ BLB=w9.heap.size by omega))
 have XSz:=hZq hst.at'
 have TVz:=hZq (Tab.sta TV.out hst XS.out rfl)
 have QXz:=hZq (Chgs.sta QX.out hst XS.out rfl)
 have TXz:=hZq (Tab.sta TX.out hst XS.out rfl)
 clear hst HB GB LB XS TV QX TX
 have HB:=HBz
 have GB:=GBz
 have LB:=LBz
 have XS:=XSz
 have TV:=TVz
 have QX:=QXz
 have TX:=TXz
 clear HBz GBz LBz XSz TVz QXz TXz
 generalize w9.heap.size=BXS at XS hXS hsGB hsLB ⊢
 have dXSGB:¬ w.heap.size=BXS:=by omega
 have dXSLB:¬ BLB=BXS:=by omega
 have eXSGB:¬ BXS=w.heap.size:=by omega
 have eXSLB:¬ BXS=BLB:=by omega
 clear hsGB hsLB
 have hsGB:=(Array.getElem?_eq_some_iff.1 GB.out).1
 have hsLB:=(Array.getElem?_eq_some_iff.1 LB.out).1
 have hsXS:=(Array.getElem?_eq_some_iff.1 XS.out).1
 have XS0:=XS
 have b12:=bl_newZ w11 (.cells #[.int .i64 0,.slice none 0 0,.bool false,.int .i64 0,.int .i64 0,.bool false,.int .i64 0,.slice none 0 0,.int .i64 0,.bool false] 41)
 have YS:=newQ w11 (.cells #[.int .i64 0,.slice none 0 0,.bool false,.int .i64 0,.int .i64 0,.bool false,.int .i64 0,.slice none 0 0,.int .i64 0,.bool false] 41)
 have hYS:w.heap.size≤w11.heap.size:=HB.out.size
 replace GB:=hZq (upQ GB.out b12)
 replace LB:=hZq (upQ LB.out b12)
 replace XS:=hZq (upQ XS.out b12)
 replace TV:=hZq (Tab.later TV.out b12)
 replace QX:=hZq (Chgs.later QX.out b12)
 replace TX:=hZq (Tab.later TX.out b12)
 replace HB:=hZq (below2Z HB.out b12)
 clear b12
 replace YS:=hZq YS
 go_wp2_with (first | (with_reducible refine ldA aggSide _ rfl rfl (BXS) 0 rfl XS0.out [.int .i64 1,.slice xa 0 xc,.bool false,.int .i64 0,.int .i64 0,.bool false,.int .i64 0,.slice ya 1 yc,.int .i64 1,.bool false] rfl rfl ?_) | (with_reducible refine stA aggSide _ _ rfl rfl (w11.heap.size) 0 rfl YS.out [.int .i64 1,.slice xa 0 xc,.bool false,.int .i64 0,.int .i64 0,.bool false,.int .i64 0,.slice ya 1 yc,.int .i64 1,.bool false] rfl rfl (Nat.le_of_ble_eq_true rfl) rfl [.int .i64 1,.slice xa 0 xc,.bool false,.int .i64 0,.int .i64 0,.bool false,.int .i64 0,.slice ya 1 yc,.int .i64 1,.bool false] rfl ?_))
 intro w13 hst
 have HBz:=hZq (hst.bel HB.out (show w.heap.size≤w11.heap.size by omega))
 have GBz:=hZq (hst.keep GB.out (show ¬ w.heap.size=w11.heap.size by omega))
 have LBz:=hZq (hst.keep LB.out (show ¬ BLB=w11.heap.size by omega))
 have XSz:=hZq (hst.keep XS.out (show ¬ BXS=w11.heap.size by omega))
 have YSz:=hZq hst.at'
 have TVz:=hZq (Tab.sta TV.out hst YS.out rfl)
 have QXz:=hZq (Chgs.sta QX.out hst YS.out rfl)
 have TXz:=hZq (Tab.sta TX.out hst YS.out rfl)
 clear hst HB GB LB XS YS TV QX TX
 have HB:=HBz
 have GB:=GBz
 have LB:=LBz
 have XS:=XSz
 have YS:=YSz
 have TV:=TVz
 have QX:=QXz
 have TX:=TXz
 clear HBz GBz LBz XSz YSz TVz QXz TXz
 clear XS0
 generalize w11.heap.size=BYS at YS hYS hsGB hsLB hsXS ⊢
 have dYSGB:¬ w.heap.size=BYS:=by omega
 have dYSLB:¬ BLB=BYS:=by omega
 have dYSXS:¬ BXS=BYS:=by omega
 have eYSGB:¬ BYS=w.heap.size:=by omega
 have eYSLB:¬ BYS=BLB:=by omega
 have eYSXS:¬ BYS=BXS:=by omega
 clear hsGB hsLB hsXS
 go_wp2_with (with_reducible refine st1 (by kernel_rfl) _ _ rfl rfl (BYS) 7 rfl YS.out (.slice none 0 0) rfl rfl (Nat.le_of_ble_eq_true rfl) rfl [.int .i64 1,.slice xa 0 xc,.bool false,.int .i64 0,.int .i64 0,.bool false,.int .i64 0,.slice none 0 0,.int .i64 1,.bool false] rfl ?_)
 intro w14 hst
 have HBz:=hZq (hst.bel HB.out (show w.heap.size≤BYS by omega))
 have GBz:=hZq (hst.keep GB.out (show ¬ w.heap.size=BYS by omega))
 have LBz:=hZq (hst.keep LB.out (show ¬ BLB=BYS by omega))
 have XSz:=hZq (hst.keep XS.out (show ¬ BXS=BYS by omega))
 have YSz:=hZq hst.at'
 have TVz:=hZq (Tab.sta TV.out hst YS.out rfl)
 have QXz:=hZq (Chgs.sta QX.out hst YS.out rfl)
 have TXz:=hZq (Tab.sta TX.out hst YS.out rfl)
 clear hst HB GB LB XS YS TV QX TX
 have HB:=HBz
 have GB:=GBz
 have LB:=LBz
 have XS:=XSz
 have YS:=YSz
 have TV:=TVz
 have QX:=QXz
 have TX:=TXz
 clear HBz GBz LBz XSz YSz TVz QXz TXz
 go_wp2_with (first | (with_reducible refine ldA aggCfg _ rfl rfl (w.heap.size) 0 rfl GB.out [.int .i64 1,.int .i64 1,.int .i64 1,.int .i64 5] rfl rfl ?_) | (with_reducible refine ldA aggSide _ rfl rfl (BYS) 0 rfl YS.out [.int .i64 1,.slice xa 0 xc,.bool false,.int .i64 0,.int .i64 0,.bool false,.int .i64 0,.slice none 0 0,.int .i64 1,.bool false] rfl rfl ?_))
 refine (rpsettle QX.out (tab_nilR _) TV.out rl_q (by decide) short_nilR (by decide) rl_v 1 1 1 5 1 0 0 0 0 1 5 false false false (by decide) (by decide) rl_z).mono ?_
 rintro e w15 ⟨u,tv,rfl,hU,hT,b15⟩
 replace GB:=hZq (upQ GB.out b15)
 replace LB:=hZq (upQ LB.out b15)
 replace XS:=hZq (upQ XS.out b15)
 replace YS:=hZq (upQ YS.out b15)
 replace TV:=hZq (Tab.later TV.out b15)
 replace QX:=hZq (Chgs.later QX.out b15)
 replace TX:=hZq (Tab.later TX.out b15)
 replace HB:=hZq (below2Z HB.out b15)
 obtain⟨za,zc,rfl⟩:=chg_shapeN hU
 obtain⟨zb,zd,rfl⟩:=tab_shapeN hT
 have QZ:=hZq hU
 have TZ:=hZq hT
 clear hU hT
 clear b15
 have hsGB:=(Array.getElem?_eq_some_iff.1 GB.out).1
 have hsLB:=(Array.getElem?_eq_some_iff.1 LB.out).1
 have hsXS:=(Array.getElem?_eq_some_iff.1 XS.out).1
 have hsYS:=(Array.getElem?_eq_some_iff.1 YS.out).1
 have b16:=bl_newZ w15 (.cells #[.int .i64 0,.slice none 0 0,.bool false,.int .i64 0,.int .i64 0,.bool false,.int .i64 0,.slice none 0 0,.int .i64 0,.bool false] 41)
 have ZS:=newQ w15 (.cells #[.int .i64 0,.slice none 0 0,.bool false,.int .i64 0,.int .i64 0,.bool false,.int .i64 0,.slice none 0 0,.int .i64 0,.bool false] 41)
 have hZS:w.heap.size≤w15.heap.size:=HB.out.size
 replace GB:=hZq (upQ GB.out b16)
 replace LB:=hZq (upQ LB.out b16)
 replace XS:=hZq (upQ XS.out b16)
 replace YS:=hZq (upQ YS.out b16)
 replace TV:=hZq (Tab.later TV.out b16)
 replace QX:=hZq (Chgs.later QX.out b16)
 replace TX:=hZq (Tab.later TX.out b16)
 replace QZ:=hZq (Chgs.later QZ.out b16)
 replace TZ:=hZq (Tab.later TZ.out b16)
 replace HB:=hZq (below2Z HB.out b16)
 clear b16
 replace ZS:=hZq ZS
 go_wp2_with (with_reducible refine stA aggSide _ _ rfl rfl (w15.heap.size) 0 rfl ZS.out [.int .i64 2,.slice za 0 zc,.bool false,.int .i64 0,.int .i64 5,.bool true,.int .i64 5,.slice zb 0 zd,.int .i64 2,.bool true] rfl rfl (Nat.le_of_ble_eq_true rfl) rfl [.int .i64 2,.slice za 0 zc,.bool false,.int .i64 0,.int .i64 5,.bool true,.int .i64 5,.slice zb 0 zd,.int .i64 2,.bool true] rfl ?_)
 intro w17 hst
 have HBz:=hZq (hst.bel HB.out (show w.heap.size≤w15.heap.size by omega))
 have GBz:=hZq (hst.keep GB.out (show ¬ w.heap.size=w15.heap.size by omega))
 have LBz:=hZq (hst.keep LB.out (show ¬ BLB=w15.heap.size by omega))
 have XSz:=hZq (hst.keep XS.out (show ¬ BXS=w15.heap.size by omega))
 have YSz:=hZq (hst.keep YS.out (show ¬ BYS=w15.heap.size by omega))
 have ZSz:=hZq hst.at'
 have TVz:=hZq (Tab.sta TV.out hst ZS.out rfl)
 have QXz:=hZq (Chgs.sta QX.out hst ZS.out rfl)
 have TXz:=hZq (Tab.sta TX.out hst ZS.out rfl)
 have QZz:=hZq (Chgs.sta QZ.out hst ZS.out rfl)
 have TZz:=hZq (Tab.sta TZ.out hst ZS.out rfl)
 clear hst HB GB LB XS YS ZS TV QX TX QZ TZ
 have HB:=HBz
 have GB:=GBz
 have LB:=LBz
 have XS:=XSz
 have YS:=YSz
 have ZS:=ZSz
 have TV:=TVz
 have QX:=QXz
 have TX:=TXz
 have QZ:=QZz
 have TZ:=TZz
 clear HBz GBz LBz XSz YSz ZSz TVz QXz TXz QZz TZz
 generalize w15.heap.size=BZS at ZS hZS hsGB hsLB hsXS hsYS ⊢
 have dZSGB:¬ w.heap.size=BZS:=by omega
 have dZSLB:¬ BLB=BZS:=by omega
 have dZSXS:¬ BXS=BZS:=by omega
 have dZSYS:¬ BYS=BZS:=by omega
 have eZSGB:¬ BZS=w.heap.size:=by omega
 have eZSLB:¬ BZS=BLB:=by omega
 have eZSXS:¬ BZS=BXS:=by omega
 have eZSYS:¬ BZS=BYS:=by omega
 clear hsGB hsLB hsXS hsYS
 go_wp2_with (first | (with_reducible refine ldA aggCfg _ rfl rfl (w.heap.size) 0 rfl GB.out [.int .i64 1,.int .i64 1,.int .i64 1,.int .i64 5] rfl rfl ?_) | (with_reducible refine ldA aggSide _ rfl rfl (BZS) 0 rfl ZS.out [.int .i64 2,.slice za 0 zc,.bool false,.int .i64 0,.int .i64 5,.bool true,.int .i64 5,.slice zb 0 zd,.int .i64 2,.bool true] rfl rfl ?_))
 refine (rpsettle QZ.out TZ.out TV.out rl_q (by decide) short_nilR (by decide) rl_v 1 1 1 5 2 0 5 5 5 2 1 false true true (by decide) (by decide) rl_w).mono ?_
 rintro e w18 ⟨u,tv,rfl,hU,hT,b18⟩
 replace GB:=hZq (upQ GB.out b18)
 replace LB:=hZq (upQ LB.out b18)
 replace XS:=hZq (upQ XS.out b18)
 replace YS:=hZq (upQ YS.out b18)
 replace ZS:=hZq (upQ ZS.out b18)
 replace TV:=hZq (Tab.later TV.out b18)
 replace QX:=hZq (Chgs.later QX.out b18)
 replace TX:=hZq (Tab.later TX.out b18)
 replace QZ:=hZq (Chgs.later QZ.out b18)
 replace TZ:=hZq (Tab.later TZ.out b18)
 replace HB:=hZq (below2Z HB.out b18)
 obtain⟨wa,wc,rfl⟩:=chg_shapeN hU
 obtain⟨wb,wd,rfl⟩:=tab_shapeV hT
 have QW:=hZq hU
 have TW:=hZq hT
 clear hU hT
 clear b18
 have hsGB:=(Array.getElem?_eq_some_iff.1 GB.out).1
 have hsLB:=(Array.getElem?_eq_some_iff.1 LB.out).1
 have hsXS:=(Array.getElem?_eq_some_iff.1 XS.out).1
 have hsYS:=(Array.getElem?_eq_some_iff.1 YS.out).1
 have hsZS:=(Array.getElem?_eq_some_iff.1 ZS.out).1
 have b19:=bl_newZ w18 (.cells #[.int .i64 0,.slice none 0 0,.bool false,.int .i64 0,.int .i64 0,.bool false,.int .i64 0,.slice none 0 0,.int .i64 0,.bool false] 41)
 have WS:=newQ w18 (.cells #[.int .i64 0,.slice none 0 0,.bool false,.int .i64 0,.int .i64 0,.bool false,.int .i64 0,.slice none 0 0,.int .i64 0,.bool false] 41)
 have hWS:w.heap.size≤w18.heap.size:=HB.out.size
 replace GB:=hZq (upQ GB.out b19)
 replace LB:=hZq (upQ LB.out b19)
 replace XS:=hZq (upQ XS.out b19)
 replace YS:=hZq (upQ YS.out b19)
 replace ZS:=hZq (upQ ZS.out b19)
 replace TV:=hZq (Tab.later TV.out b19)
 replace QX:=hZq (Chgs.later QX.out b19)
 replace TX:=hZq (Tab.later TX.out b19)
 replace QZ:=hZq (Chgs.later QZ.out b19)
 replace TZ:=hZq (Tab.later TZ.out b19)
 replace QW:=hZq (Chgs.later QW.out b19)
 replace TW:=hZq (Tab.later TW.out b19)
 replace HB:=hZq (below2Z HB.out b19)
 clear b19
 replace WS:=hZq WS
 go_wp2_with (with_reducible refine stA aggSide _ _ rfl rfl (w18.heap.size) 0 rfl WS.out [.int .i64 3,.slice wa 0 wc,.bool false,.int .i64 0,.int .i64 6,.bool false,.int .i64 6,.slice wb 1 wd,.int .i64 3,.bool false] rfl rfl (Nat.le_of_ble_eq_true rfl) rfl [.int .i64 3,.slice wa 0 wc,.bool false,.int .i64 0,.int .i64 6,.bool false,.int .i64 6,.slice wb 1 wd,.int .i64 3,.bool false] rfl ?_)
 intro w20 hst
 have HBz:=hZq (hst.bel HB.out (show w.heap.size≤w18.heap.size by omega))
 have GBz:=hZq (hst.keep GB.out (show ¬ w.heap.size=w18.heap.size by omega))
 have LBz:=hZq (hst.keep LB.out (show ¬ BLB=w18.heap.size by omega))
 have XSz:=hZq (hst.keep XS.out (show ¬ BXS=w18.heap.size by omega))
 have YSz:=hZq (hst.keep YS.out (show ¬ BYS=w18.heap.size by omega))
 have ZSz:=hZq (hst.keep ZS.out (show ¬ BZS=w18.heap.size by omega))
 have WSz:=hZq hst.at'
 have TVz:=hZq (Tab.sta TV.out hst WS.out rfl)
 have QXz:=hZq (Chgs.sta QX.out hst WS.out rfl)
 have TXz:=hZq (Tab.sta TX.out hst WS.out rfl)
 have QZz:=hZq (Chgs.sta QZ.out hst WS.out rfl)
 have TZz:=hZq (Tab.sta TZ.out hst WS.out rfl)
 have QWz:=hZq (Chgs.sta QW.out hst WS.out rfl)
 have TWz:=hZq (Tab.sta TW.out hst WS.out rfl)
 clear hst HB GB LB XS YS ZS WS TV QX TX QZ TZ QW TW
 have HB:=HBz
 have GB:=GBz
 have LB:=LBz
 have XS:=XSz
 have YS:=YSz
 have ZS:=ZSz
 have WS:=WSz
 have TV:=TVz
 have QX:=QXz
 have TX:=TXz
 have QZ:=QZz
 have TZ:=TZz
 have QW:=QWz
 have TW:=TWz
 clear HBz GBz LBz XSz YSz ZSz WSz TVz QXz TXz QZz TZz QWz TWz
 generalize w18.heap.size=BWS at WS hWS hsGB hsLB hsXS hsYS hsZS ⊢
 have dWSGB:¬ w.heap.size=BWS:=by omega
 have dWSLB:¬ BLB=BWS:=by omega
 have dWSXS:¬ BXS=BWS:=by omega
 have dWSYS:¬ BYS=BWS:=by omega
 have dWSZS:¬ BZS=BWS:=by omega
 have eWSGB:¬ BWS=w.heap.size:=by omega
 have eWSLB:¬ BWS=BLB:=by omega
 have eWSXS:¬ BWS=BXS:=by omega
 have eWSYS:¬ BWS=BYS:=by omega
 have eWSZS:¬ BWS=BZS:=by omega
 clear hsGB hsLB hsXS hsYS hsZS
 go_wp2_with (with_reducible refine ldA aggLink _ rfl rfl (BXS) 0 rfl XS.out [.int .i64 1,.slice xa 0 xc,.bool false,.int .i64 0,.int .i64 0,.bool false,.int .i64 0] rfl rfl ?_)
 refine (rpread_r QX.out rpS rl_l rl_r).mono ?_
 rintro e w21 ⟨rfl,b21⟩
 replace GB:=hZq (upQ GB.out b21)
 replace LB:=hZq (upQ LB.out b21)
 replace XS:=hZq (upQ XS.out b21)
 replace YS:=hZq (upQ YS.out b21)
 replace ZS:=hZq (upQ ZS.out b21)
 replace WS:=hZq (upQ WS.out b21)
 replace TV:=hZq (Tab.later TV.out b21)
 replace QX:=hZq (Chgs.later QX.out b21)
 replace TX:=hZq (Tab.later TX.out b21)
 replace QZ:=hZq (Chgs.later QZ.out b21)
 replace TZ:=hZq (Tab.later TZ.out b21)
 replace QW:=hZq (Chgs.later QW.out b21)
 replace TW:=hZq (Tab.later TW.out b21)
 replace HB:=hZq (below2Z HB.out b21)
 clear b21
 have hsGB:=(Array.getElem?_eq_some_iff.1 GB.out).1
 have hsLB:=(Array.getElem?_eq_some_iff.1 LB.out).1
 have hsXS:=(Array.getElem?_eq_some_iff.1 XS.out).1
 have hsYS:=(Array.getElem?_eq_some_iff.1 YS.out).1
 have hsZS:=(Array.getElem?_eq_some_iff.1 ZS.out).1
 have hsWS:=(Array.getElem?_eq_some_iff.1 WS.out).1
 have b22:=bl_newZ w21 (.cells #[.int .i64 0,.slice none 0 0,.bool false,.int .i64 0,.int .i64 0,.bool false,.int .i64 0] 30)
 have MS:=newQ w21 (.cells #[.int .i64 0,.slice none 0 0,.bool false,.int .i64 0,.int .i64 0,.bool false,.int .i64 0] 30)
 have hMS:w.heap.size≤w21.heap.size:=HB.out.size
 replace GB:=hZq (upQ GB.out b22)
 replace LB:=hZq (upQ LB.out b22)
 replace XS:=hZq (upQ XS.out b22)
 replace YS:=hZq (upQ YS.out b22)
 replace ZS:=hZq (upQ ZS.out b22)
 replace WS:=hZq (upQ WS.out b22)
 replace TV:=hZq (Tab.later TV.out b22)
 replace QX:=hZq (Chgs.later QX.out b22)
 replace TX:=hZq (Tab.later TX.out b22)
 replace QZ:=hZq (Chgs.later QZ.out b22)
 replace TZ:=hZq (Tab.later TZ.out b22)
 replace QW:=hZq (Chgs.later QW.out b22)
 replace TW:=hZq (Tab.later TW.out b22)
 replace HB:=hZq (below2Z HB.out b22)
 clear b22
 replace MS:=hZq MS
 go_wp2_with (with_reducible refine stA aggLink _ _ rfl rfl (w21.heap.size) 0 rfl MS.out [.int .i64 1,.slice none 0 0,.bool false,.int .i64 0,.int .i64 0,.bool true,.int .i64 0] rfl rfl (Nat.le_of_ble_eq_true rfl) rfl [.int .i64 1,.slice none 0 0,.bool false,.int .i64 0,.int .i64 0,.bool true,.int .i64 0] rfl ?_)
 intro w23 hst
 have HBz:=hZq (hst.bel HB.out (show w.heap.size≤w21.heap.size by omega))
 have GBz:=hZq (hst.keep GB.out (show ¬ w.heap.size=w21.heap.size by omega))
 have LBz:=hZq (hst.keep LB.out (show ¬ BLB=w21.heap.size by omega))
 have XSz:=hZq (hst.keep XS.out (show ¬ BXS=w21.heap.size by omega))
 have YSz:=hZq (hst.keep YS.out (show ¬ BYS=w21.heap.size by omega))
 have ZSz:=hZq (hst.keep ZS.out (show ¬ BZS=w21.heap.size by omega))
 have WSz:=hZq (hst.keep WS.out (show ¬ BWS=w21.heap.size by omega))
 have MSz:=hZq hst.at'
 have TVz:=hZq (Tab.sta TV.out hst MS.out rfl)
 have QXz:=hZq (Chgs.sta QX.out hst MS.out rfl)
 have TXz:=hZq (Tab.sta TX.out hst MS.out rfl)
 have QZz:=hZq (Chgs.sta QZ.out hst MS.out rfl)
 have TZz:=hZq (Tab.sta TZ.out hst MS.out rfl)
 have QWz:=hZq (Chgs.sta QW.out hst MS.out rfl)
 have TWz:=hZq (Tab.sta TW.out hst MS.out rfl)
 clear hst HB GB LB XS YS ZS WS MS TV QX TX QZ TZ QW TW
 have HB:=HBz
 have GB:=GBz
 have LB:=LBz
 have XS:=XSz
 have YS:=YSz
 have ZS:=ZSz
 have WS:=WSz
 have MS:=MSz
 have TV:=TVz
 have QX:=QXz
 have TX:=TXz
 have QZ:=QZz
 have TZ:=TZz
 have QW:=QWz
 have TW:=TWz
 clear HBz GBz LBz XSz YSz ZSz WSz MSz TVz QXz TXz QZz TZz QWz TWz
 generalize w21.heap.size=BMS at MS hMS hsGB hsLB hsXS hsYS hsZS hsWS ⊢
 have dMSGB:¬ w.heap.size=BMS:=by omega
 have dMSLB:¬ BLB=BMS:=by omega
 have dMSXS:¬ BXS=BMS:=by omega
 have dMSYS:¬ BYS=BMS:=by omega
 have dMSZS:¬ BZS=BMS:=by omega
 have dMSWS:¬ BWS=BMS:=by omega
 have eMSGB:¬ BMS=w.heap.size:=by omega
 have eMSLB:¬ BMS=BLB:=by omega
 have eMSXS:¬ BMS=BXS:=by omega
 have eMSYS:¬ BMS=BYS:=by omega
 have eMSZS:¬ BMS=BZS:=by omega
 have eMSWS:¬ BMS=BWS:=by omega
 clear hsGB hsLB hsXS hsYS hsZS hsWS
 go_wp2_with (with_reducible refine ldA aggLink _ rfl rfl (BXS) 0 rfl XS.out [.int .i64 1,.slice xa 0 xc,.bool false,.int .i64 0,.int .i64 0,.bool false,.int .i64 0] rfl rfl ?_)
 refine (rpread_b QX.out [120] (by decide) rl_x (by decide)).mono ?_
 rintro e w24 ⟨rfl,b24⟩
 replace GB:=hZq (upQ GB.out b24)
 replace LB:=hZq (upQ LB.out b24)
 replace XS:=hZq (upQ XS.out b24)
 replace YS:=hZq (upQ YS.out b24)
 replace ZS:=hZq (upQ ZS.out b24)
 replace WS:=hZq (upQ WS.out b24)
 replace MS:=hZq (upQ MS.out b24)
 replace TV:=hZq (Tab.later TV.out b24)
 replace QX:=hZq (Chgs.later QX.out b24)
 replace TX:=hZq (Tab.later TX.out b24)
 replace QZ:=hZq (Chgs.later QZ.out b24)
 replace TZ:=hZq (Tab.later TZ.out b24)
 replace QW:=hZq (Chgs.later QW.out b24)
 replace TW:=hZq (Tab.later TW.out b24)
 replace HB:=hZq (below2Z HB.out b24)
 clear b24
 have hsGB:=(Array.getElem?_eq_some_iff.1 GB.out).1
 have hsLB:=(Array.getElem?_eq_some_iff.1 LB.out).1
 have hsXS:=(Array.getElem?_eq_some_iff.1 XS.out).1
 have hsYS:=(Array.getElem?_eq_some_iff.1 YS.out).1
 have hsZS:=(Array.getElem?_eq_some_iff.1 ZS.out).1
 have hsWS:=(Array.getElem?_eq_some_iff.1 WS.out).1
 have hsMS:=(Array.getElem?_eq_some_iff.1 MS.out).1
 have b25:=bl_newZ w24 (.cells #[.int .i64 0,.slice none 0 0,.bool false,.int .i64 0,.int .i64 0,.bool false,.int .i64 0] 30)
 have NS:=newQ w24 (.cells #[.int .i64 0,.slice none 0 0,.bool false,.int .i64 0,.int .i64 0,.bool false,.int .i64 0] 30)
 have hNS:w.heap.size≤w24.heap.size:=HB.out.size
 replace GB:=hZq (upQ GB.out b25)
 replace LB:=hZq (upQ LB.out b25)
 replace XS:=hZq (upQ XS.out b25)
 replace YS:=hZq (upQ YS.out b25)
 replace ZS:=hZq (upQ ZS.out b25)
 replace WS:=hZq (upQ WS.out b25)
 replace MS:=hZq (upQ MS.out b25)
 replace TV:=hZq (Tab.later TV.out b25)
 replace QX:=hZq (Chgs.later QX.out b25)
 replace TX:=hZq (Tab.later TX.out b25)
 replace QZ:=hZq (Chgs.later QZ.out b25)
 replace TZ:=hZq (Tab.later TZ.out b25)
 replace QW:=hZq (Chgs.later QW.out b25)
 replace TW:=hZq (Tab.later TW.out b25)
 replace HB:=hZq (below2Z HB.out b25)
 clear b25
 replace NS:=hZq NS
 go_wp2_with (with_reducible refine stA aggLink _ _ rfl rfl (w24.heap.size) 0 rfl NS.out [.int .i64 1,.slice xa 0 xc,.bool false,.int .i64 0,.int .i64 0,.bool false,.int .i64 0] rfl rfl (Nat.le_of_ble_eq_true rfl) rfl [.int .i64 1,.slice xa 0 xc,.bool false,.int .i64 0,.int .i64 0,.bool false,.int .i64 0] rfl ?_)
 intro w26 hst
 have HBz:=hZq (hst.bel HB.out (show w.heap.size≤w24.heap.size by omega))
 have GBz:=hZq (hst.keep GB.out (show ¬ w.heap.size=w24.heap.size by omega))
 have LBz:=hZq (hst.keep LB.out (show ¬ BLB=w24.heap.size by omega))
 have XSz:=hZq (hst.keep XS.out (show ¬ BXS=w24.heap.size by omega))
 have YSz:=hZq (hst.keep YS.out (show ¬ BYS=w24.heap.size by omega))
 have ZSz:=hZq (hst.keep ZS.out (show ¬ BZS=w24.heap.size by omega))
 have WSz:=hZq (hst.keep WS.out (show ¬ BWS=w24.heap.size by omega))
 have MSz:=hZq (hst.keep MS.out (show ¬ BMS=w24.heap.size by omega))
 have NSz:=hZq hst.at'
 have TVz:=hZq (Tab.sta TV.out hst NS.out rfl)
 have QXz:=hZq (Chgs.sta QX.out hst NS.out rfl)
 have TXz:=hZq (Tab.sta TX.out hst NS.out rfl)
 have QZz:=hZq (Chgs.sta QZ.out hst NS.out rfl)
 have TZz:=hZq (Tab.sta TZ.out hst NS.out rfl)
 have QWz:=hZq (Chgs.sta QW.out hst NS.out rfl)
 have TWz:=hZq (Tab.sta TW.out hst NS.out rfl)
 clear hst HB GB LB XS YS ZS WS MS NS TV QX TX QZ TZ QW TW
 have HB:=HBz
 have GB:=GBz
 have LB:=LBz
 have XS:=XSz
 have YS:=YSz
 have ZS:=ZSz
 have WS:=WSz
 have MS:=MSz
 have NS:=NSz
 have TV:=TVz
 have QX:=QXz
 have TX:=TXz
 have QZ:=QZz
 have TZ:=TZz
 have QW:=QWz
 have TW:=TWz
 clear HBz GBz LBz XSz YSz ZSz WSz MSz NSz TVz QXz TXz QZz TZz QWz TWz
 generalize w24.heap.size=BNS at NS hNS hsGB hsLB hsXS hsYS hsZS hsWS hsMS ⊢
 have dNSGB:¬ w.heap.size=BNS:=by omega
 have dNSLB:¬ BLB=BNS:=by omega
 have dNSXS:¬ BXS=BNS:=by omega
 have dNSYS:¬ BYS=BNS:=by omega
 have dNSZS:¬ BZS=BNS:=by omega
 have dNSWS:¬ BWS=BNS:=by omega
 have dNSMS:¬ BMS=BNS:=by omega
 have eNSGB:¬ BNS=w.heap.size:=by omega
 have eNSLB:¬ BNS=BLB:=by omega
 have eNSXS:¬ BNS=BXS:=by omega
 have eNSYS:¬ BNS=BYS:=by omega
 have eNSZS:¬ BNS=BZS:=by omega
 have eNSWS:¬ BNS=BWS:=by omega
 have eNSMS:¬ BNS=BMS:=by omega
 clear hsGB hsLB hsXS hsYS hsZS hsWS hsMS
 go_wp2_with (with_reducible refine ldA aggSide _ rfl rfl (BXS) 0 rfl XS.out [.int .i64 1,.slice xa 0 xc,.bool false,.int .i64 0,.int .i64 0,.bool false,.int .i64 0,.slice ya 1 yc,.int .i64 1,.bool false] rfl rfl ?_)
 refine (rpsync_any QX.out TX.out TV.out rl_s).mono ?_
 rintro e w27 ⟨rfl,b27⟩
 replace GB:=hZq (upQ GB.out b27)
 replace LB:=hZq (upQ LB.out b27)
 replace XS:=hZq (upQ XS.out b27)
 replace YS:=hZq (upQ YS.out b27)
 replace ZS:=hZq (upQ ZS.out b27)
 replace WS:=hZq (upQ WS.out b27)
 replace MS:=hZq (upQ MS.out b27)
 replace NS:=hZq (upQ NS.out b27)
 replace TV:=hZq (Tab.later TV.out b27)
 replace QX:=hZq (Chgs.later QX.out b27)
 replace TX:=hZq (Tab.later TX.out b27)
 replace QZ:=hZq (Chgs.later QZ.out b27)
 replace TZ:=hZq (Tab.later TZ.out b27)
 replace QW:=hZq (Chgs.later QW.out b27)
 replace TW:=hZq (Tab.later TW.out b27)
 replace HB:=hZq (below2Z HB.out b27)
 clear b27
 go_wp2_with (with_reducible refine ldG aggSide _ rfl rfl (BYS) 0 rfl YS.out [.int .i64 1,.slice xa 0 xc,.bool false,.int .i64 0,.int .i64 0,.bool false,.int .i64 0,.slice none 0 0,.int .i64 1,.bool false] rfl rfl ?_)
 refine (rpsync_any QX.out (tab_nilR _) TV.out rl_t).mono ?_
 rintro e w28 ⟨rfl,b28⟩
 replace GB:=hZq (upQ GB.out b28)
 replace LB:=hZq (upQ LB.out b28)
 replace XS:=hZq (upQ XS.out b28)
 replace YS:=hZq (upQ YS.out b28)
 replace ZS:=hZq (upQ ZS.out b28)
 replace WS:=hZq (upQ WS.out b28)
 replace MS:=hZq (upQ MS.out b28)
 replace NS:=hZq (upQ NS.out b28)
 replace TV:=hZq (Tab.later TV.out b28)
 replace QX:=hZq (Chgs.later QX.out b28)
 replace TX:=hZq (Tab.later TX.out b28)
 replace QZ:=hZq (Chgs.later QZ.out b28)
 replace TZ:=hZq (Tab.later TZ.out b28)
 replace QW:=hZq (Chgs.later QW.out b28)
 replace TW:=hZq (Tab.later TW.out b28)
 replace HB:=hZq (below2Z HB.out b28)
 clear b28
 have ZSk9:=ckZ ZS.out 9 _ rfl
 have ZSk5:=ckZ ZS.out 5 _ rfl
 go_wp2_with (with_reducible refine ldG aggSide _ rfl rfl (BWS) 0 rfl WS.out [.int .i64 3,.slice wa 0 wc,.bool false,.int .i64 0,.int .i64 6,.bool false,.int .i64 6,.slice wb 1 wd,.int .i64 3,.bool false] rfl rfl ?_)
 clear ZSk9 ZSk5
 refine (rpsync_any QW.out TW.out TV.out rl_u).mono ?_
 rintro e w29 ⟨rfl,b29⟩
 replace GB:=hZq (upQ GB.out b29)
 replace LB:=hZq (upQ LB.out b29)
 replace XS:=hZq (upQ XS.out b29)
 replace YS:=hZq (upQ YS.out b29)
 replace ZS:=hZq (upQ ZS.out b29)
 replace WS:=hZq (upQ WS.out b29)
 replace MS:=hZq (upQ MS.out b29)
 replace NS:=hZq (upQ NS.out b29)
 replace TV:=hZq (Tab.later TV.out b29)
 replace QX:=hZq (Chgs.later QX.out b29)
 replace TX:=hZq (Tab.later TX.out b29)
 replace QZ:=hZq (Chgs.later QZ.out b29)
 replace TZ:=hZq (Tab.later TZ.out b29)
 replace QW:=hZq (Chgs.later QW.out b29)
 replace TW:=hZq (Tab.later TW.out b29)
 replace HB:=hZq (below2Z HB.out b29)
 clear b29
 have MSk5:=ckZ MS.out 5 _ rfl
 go_wp2_with (with_reducible refine ldG aggCfg _ rfl rfl (w.heap.size) 0 rfl GB.out [.int .i64 1,.int .i64 1,.int .i64 1,.int .i64 5] rfl rfl ?_)
 clear MSk5
 refine (rpbound_v rl_b _).mono ?_
 rintro e w30 ⟨rfl,b30⟩
 replace GB:=hZq (upQ GB.out b30)
 replace LB:=hZq (upQ LB.out b30)
 replace XS:=hZq (upQ XS.out b30)
 replace YS:=hZq (upQ YS.out b30)
 replace ZS:=hZq (upQ ZS.out b30)
 replace WS:=hZq (upQ WS.out b30)
 replace MS:=hZq (upQ MS.out b30)
 replace NS:=hZq (upQ NS.out b30)
 replace TV:=hZq (Tab.later TV.out b30)
 replace QX:=hZq (Chgs.later QX.out b30)
 replace TX:=hZq (Tab.later TX.out b30)
 replace QZ:=hZq (Chgs.later QZ.out b30)
 replace TZ:=hZq (Tab.later TZ.out b30)
 replace QW:=hZq (Chgs.later QW.out b30)
 replace TW:=hZq (Tab.later TW.out b30)
 replace HB:=hZq (below2Z HB.out b30)
 clear b30
 go_wp2_with fail
 refine (rpbound_v rl_c _).mono ?_
 rintro e w31 ⟨rfl,b31⟩
 replace GB:=hZq (upQ GB.out b31)
 replace LB:=hZq (upQ LB.out b31)
 replace XS:=hZq (upQ XS.out b31)
 replace YS:=hZq (upQ YS.out b31)
 replace ZS:=hZq (upQ ZS.out b31)
 replace WS:=hZq (upQ WS.out b31)
 replace MS:=hZq (upQ MS.out b31)
 replace NS:=hZq (upQ NS.out b31)
 replace TV:=hZq (Tab.later TV.out b31)
 replace QX:=hZq (Chgs.later QX.out b31)
 replace TX:=hZq (Tab.later TX.out b31)
 replace QZ:=hZq (Chgs.later QZ.out b31)
 replace TZ:=hZq (Tab.later TZ.out b31)
 replace QW:=hZq (Chgs.later QW.out b31)
 replace TW:=hZq (Tab.later TW.out b31)
 replace HB:=hZq (below2Z HB.out b31)
 clear b31
 go_wp2_with fail
 go_ret
 exact⟨rfl,HB.out⟩
end Go.Proofs.YtmpigdokghngiaaGreat
