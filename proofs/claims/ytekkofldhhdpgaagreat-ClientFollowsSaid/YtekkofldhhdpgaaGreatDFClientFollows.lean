/-
 THE PROOF OF ClientFollows: for every input the law returns true, and each argument reads behind the call as it read before. No condition.
-/
import Derived.Test.YtekkofldhhdpgaaGreatD24
import Derived.Test.YtekkofldhhdpgaaGreatD25
import Derived.Test.YtekkofldhhdpgaaGreatD33
import Derived.Test.YtekkofldhhdpgaaGreatD27
import Derived.Test.YtekkofldhhdpgaaGreatD07
import Derived.Test.YtekkofldhhdpgaaGreatD28
import Derived.Test.YtekkofldhhdpgaaGreatD10
import Derived.Deep.CutRange
import Derived.Test.YtekkofldhhdpgaaGreatRows
import Derived.ProofKit
import Derived.OpenShut
import Derived.ShutString
import Derived.ChangeOld
import Derived.SliceStrings
import Derived.Lib.SmallJoins

set_option maxHeartbeats 12800000
set_option maxRecDepth 100000

section

namespace Go.Proofs.YtekkofldhhdpgaaGreat
open Go.RowKit

theorem may_all {f:Frm} (h:frMay f=true):Short f.t∧f.t.length≤1000∧f.c.length≤4294967296∧f.v.st.length≤4294967296∧(Lit.int .i64 f.k).wf=true:=by
 have ho:=frMay_iff.1 h
 have hr:=ho.rest
 have h1:=ho.k1
 have h4:=ho.k4
 have hw:(Lit.int .i64 f.k).wf=true:=by
  simp [Lit.wf,IntKind.min,IntKind.max,IntKind.signed,IntKind.bits]
  omega
 unfold frRest at hr
 have hz:∀ {v:Val},vSame v Val.zero=true→v.st.length≤4294967296:=fun h => by rw [vSame_iff.1 h]; simp [Val.zero]
 have nil:∀ {t:List Row},t.length=0→Short t∧t.length≤1000:=fun h => by rw [List.length_eq_zero_iff.1 h]; exact⟨fun r hr => by simp at hr,by simp⟩
 by_cases k1:f.k=1
 ·rw [if_pos k1] at hr
  simp only [Bool.and_eq_true,decide_eq_true_eq] at hr
  obtain⟨_,h2,h3,h5⟩:=hr
  obtain⟨a,b⟩:=nil h2
  have hc:=(idIs_parts h3).2.1
  refine ⟨a,b,by omega,?_,hw⟩
  cases ho2:f.on with
  | true =>
   rw [ho2] at h5
   have:=(vaMay_parts h5).2.2.2.2.2.2
   omega
  | false => rw [ho2] at h5; exact hz h5
 ·rw [if_neg k1] at hr
  by_cases k2:f.k=2
  ·rw [if_pos k2] at hr
   simp only [Bool.and_eq_true,decide_eq_true_eq,beq_iff_eq] at hr
   obtain⟨⟨_,h2,h3⟩,h5⟩:=hr
   obtain⟨a,b⟩:=nil h5
   exact⟨a,b,by rw [h2]; simp,hz h3,hw⟩
  ·rw [if_neg k2] at hr
   by_cases k3:f.k=3
   ·rw [if_pos k3] at hr
    simp only [Bool.and_eq_true,decide_eq_true_eq,beq_iff_eq] at hr
    obtain⟨⟨_,h2,h3⟩,_,h5⟩:=hr
    exact⟨short_in h5,by have:=(diMay_iff.1 h5).1; omega,by rw [h2]; simp,hz h3,hw⟩
   ·rw [if_neg k3] at hr
    simp only [Bool.and_eq_true,decide_eq_true_eq,beq_iff_eq] at hr
    obtain⟨⟨_,h2,h3⟩,_,h5⟩:=hr
    obtain⟨a,b⟩:=nil h5
    exact⟨a,b,by rw [h2]; simp,hz h3,hw⟩

theorem clfold_next {fs:List Frm} {c:Cli} {j:Nat} (hj:j < fs.length):(fs.take (j+1)).foldl clFeed c=clFeed ((fs.take j).foldl clFeed c) (fs.getD j Frm.zero):=by
 rw [List.take_add_one,List.foldl_append,List.getElem?_eq_getElem hj]
 simp [List.getD_eq_getElem?_getD,List.getElem?_eq_getElem hj]

theorem tab_keepL {w:World} {v:Value} {t:List Row} (h:Tab w v t) {B:Nat} {cs:Array Value} {T:TypeId} (hb:w.heap[B]?=some (.cells cs T (0,0))) (hs:∀ (j:Nat) (s:ByteArray),cs[j]? ≠ some (.string s)) {W:World} (hfar:∀ k,¬ k=B→W.heap[k]?=w.heap[k]?) (hsz:w.heap.size≤W.heap.size):Tab W v t:=by
 obtain⟨ad,cap,h1,h2,h3,h4,h5⟩:=h
 refine ⟨ad,cap,h1,h2,h3,h4,?_⟩
 rcases h5 with h5 | ⟨g,off,e,hlt,hc⟩
 ·exact .inl h5
 ·by_cases ht:t=[]
  ·exact .inl ht
  ·have hpos:0 < t.length:=List.length_pos_iff.2 ht
   have hne:¬ g=B:=by
    rintro rfl
    have h5:=(hc 0 hpos).1
    rw [Nat.zero_mul,Nat.add_zero] at h5
    simp only [World.cell?,hb] at h5
    exact hs _ _ (by simpa using h5)
   refine .inr ⟨g,off,e,Nat.lt_of_lt_of_le hlt hsz,fun i hi => ?_⟩
   have k:∀ o,W.cell? ⟨g,o,none⟩=w.cell? ⟨g,o,none⟩:=fun o => World.cell?_of_block (hfar g hne)
   obtain⟨c0,c1,c2,c3,c4⟩:=hc i hi
   exact⟨(k _).trans c0,(k _).trans c1,(k _).trans c2,(k _).trans c3,(k _).trans c4⟩

theorem noCli {a:Option Addr} {n c:Nat} {i:Int} {b:Bool}:∀ (j:Nat) (s:ByteArray),(#[.slice a n c,.int .i64 i,.bool b]:Array Value)[j]? ≠ some (Value.string s):=by
 intro j s hj
 match j,hj with
 | 0,hj => simp at hj
 | 1,hj => simp at hj
 | 2,hj => simp at hj
 | j+3,hj => simp at hj

theorem heldC_farF {X W:World} {cs:List (Nat × Nat × Value)} {B:Nat} (h:heldC X cs) (hfar:∀ k,¬ k=B→W.heap[k]?=X.heap[k]?) (hn:∀ p ∈ cs,¬ p.1=B):heldC W cs:=fun p hp =>
 (World.cell?_of_block (hfar p.1 (hn p hp))).trans (h p hp)

theorem rset_eqF {w:World} {v:Value} {t:List Row} (hv:Tab w v t) (hl:t.length≤1000) (c st:List UInt8) (on:Bool) (a b d:Int) :
  Calls Tryz.prog 30 #[v,.agg #[.string ⟨c.toArray⟩,.bool on,.int .i64 a,.int .i64 b,.int .i64 d,.string ⟨st.toArray⟩]] w fun e w' => ∃ u,e=.returned u∧OwnR w' w.heap.size u (diSet t ⟨c,on,⟨a,b,d,st⟩⟩)∧Below w.heap.size w w' :=
 rset_any hv hl ⟨c,on,⟨a,b,d,st⟩⟩

theorem run_64 {c:Cfg} {l:Lnk} {view:List Row} {now:Int} (h1:lnMay c l=true) (hv:diMay view=true) (hn:pcTime now=true):(lnRun c view now 65 l).2.length≤64:=by
 obtain⟨r1,r2,r3,r4⟩:=run_may hv hn 65 l h1
 have hb:=(pcLev_ge (now:=now) (lnMay_iff.1 h1).1).2.1
 have h64:=(pcMay_iff.1 (pcOne_iff.1 (lnMay_iff.1 h1).1).1).2.2.2.1
 have hge:=(pcLev_ge (now:=now) (lnMay_iff.1 r1).1).1
 omega

theorem new_fol {ca cb cd ce:Int} (h:pcMay ⟨ca,cb,cd,ce⟩=true):lnNew ⟨ca,cb,cd,ce⟩ 0=(⟨0,⟨[],false⟩,⟨cb,0⟩,true,0⟩,0)∧FolAt ⟨ca,cb,cd,ce⟩ ⟨[],0,false⟩ ⟨0,⟨[],false⟩,⟨cb,0⟩,true,0⟩ []:=by
 have ht:pcTime 0=true:=pcTime_iff.2 ⟨by decide,by decide⟩
 have hc:=pcMay_iff.1 h
 have hm:lnMay ⟨ca,cb,cd,ce⟩ ⟨0,⟨[],false⟩,⟨cb,0⟩,true,0⟩=true:=by
  refine lnMay_iff.2 ⟨pcOne_iff.2 ⟨h,?_,?_,?_,?_⟩,?_,?_,quMay_iff.2 ⟨?_,fun _ => rfl,(fun x hx => by cases hx),List.nodup_nil⟩,rfl,ht,fun _ => rfl⟩
  all_goals simp only [List.length_nil,Int.ofNat_zero] at *
  all_goals omega
 refine ⟨?_,hm,by decide,rfl,rfl,fun e => by cases e⟩
 unfold lnNew pcNew
 rw [h,ht]
 rfl

theorem cfo_1 {w:World} {v:Value} {l:List Chg} (ca cb cd ce:Int) (hv:Chgs w v l) (HP:Hid (pcMay ⟨ca,cb,cd,ce⟩=false)) :
  Calls Tryz.prog 5 #[.agg #[.int .i64 ca,.int .i64 cb,.int .i64 cd,.int .i64 ce],v] w fun e w' => e=.returned (.bool true)∧Below w.heap.size w w':=by
 obtain⟨sa,cap,rfl,hsl⟩:=hv.open'
 have b0:=bl_newZ w (.cells #[.int .i64 ca,.int .i64 cb,.int .i64 cd,.int .i64 ce] 44)
 have HB:=hZq b0
 have G:=newQ w (.cells #[.int .i64 ca,.int .i64 cb,.int .i64 cd,.int .i64 ce] 44)
 replace G:=hZq G
 clear b0
 have HV:=hZq hv
 have HVL:=hZq (fun X (hX:Below w.heap.size w X) => hv.later hX)
 clear hv
 go_enter Tryz.func5,Tryz.ntmps5
 obtain⟨⟨Gc0,Gc1,Gc2,Gc3⟩,⟨Gf0,Gf1,Gf2,Gf3⟩⟩:=blk4 G.out
 go_wp2_with fail
 clear Gc0 Gc1 Gc2 Gc3 Gf0 Gf1 Gf2 Gf3
 refine (rpmay_any ca cb cd ce HP _).mono ?_
 rintro e w2 ⟨rfl,b2⟩
 replace G:=hZq (upQ G.out b2)
 replace HB:=hZq (below2Z HB.out b2)
 clear b2
 go_wp2_with fail
 refine (live19 _).mono ?_
 rintro e w3 ⟨rfl,b3⟩
 replace G:=hZq (upQ G.out b3)
 replace HB:=hZq (below2Z HB.out b3)
 clear b3
 go_wp2_with fail
 go_ret
 exact⟨rfl,HB.out⟩

theorem cfo_2 {w:World} {v:Value} {l:List Chg} (ca cb cd ce:Int) (hv:Chgs w v l) (HP:Hid (pcMay ⟨ca,cb,cd,ce⟩=true)) (HF:Hid (fewC l 40=false)) :
  Calls Tryz.prog 5 #[.agg #[.int .i64 ca,.int .i64 cb,.int .i64 cd,.int .i64 ce],v] w fun e w' => e=.returned (.bool true)∧Below w.heap.size w w':=by
 obtain⟨sa,cap,rfl,hsl⟩:=hv.open'
 have b0:=bl_newZ w (.cells #[.int .i64 ca,.int .i64 cb,.int .i64 cd,.int .i64 ce] 44)
 have HB:=hZq b0
 have G:=newQ w (.cells #[.int .i64 ca,.int .i64 cb,.int .i64 cd,.int .i64 ce] 44)
 replace G:=hZq G
 clear b0
 have HV:=hZq hv
 have HVL:=hZq (fun X (hX:Below w.heap.size w X) => hv.later hX)
 clear hv
 go_enter Tryz.func5,Tryz.ntmps5
 obtain⟨⟨Gc0,Gc1,Gc2,Gc3⟩,⟨Gf0,Gf1,Gf2,Gf3⟩⟩:=blk4 G.out
 go_wp2_with fail
 clear Gc0 Gc1 Gc2 Gc3 Gf0 Gf1 Gf2 Gf3
 refine (rpmay_any ca cb cd ce HP _).mono ?_
 rintro e w2 ⟨rfl,b2⟩
 replace G:=hZq (upQ G.out b2)
 replace HB:=hZq (below2Z HB.out b2)
 clear b2
 go_wp2_with fail
 refine (fewc_any (HVL.out _ HB.out) 40 HF).mono ?_
 rintro e w3 ⟨rfl,b3⟩
 replace G:=hZq (upQ G.out b3)
 replace HB:=hZq (below2Z HB.out b3)
 clear b3
 go_wp2_with fail
 refine (live19 _).mono ?_
 rintro e w4 ⟨rfl,b4⟩
 replace G:=hZq (upQ G.out b4)
 replace HB:=hZq (below2Z HB.out b4)
 clear b4
 go_wp2_with fail
 go_ret
 exact⟨rfl,HB.out⟩

theorem cfo_3 {w:World} {v:Value} {l:List Chg} (ca cb cd ce:Int) (hv:Chgs w v l) (HP:Hid (pcMay ⟨ca,cb,cd,ce⟩=true)) (HF:Hid (fewC l 40=true)) :
  Calls Tryz.prog 5 #[.agg #[.int .i64 ca,.int .i64 cb,.int .i64 cd,.int .i64 ce],v] w fun e w' => e=.returned (.bool true)∧Below w.heap.size w w':=by
 have hl40:l.length≤40:=by have:=(fewC_get HF.out).1; omega
 have HSC:=hZq (fewC_get HF.out).2
 have HNW:=hZq (new_fol HP.out).1
 obtain⟨sa,cap,rfl,hsl⟩:=hv.open'
 have b0:=bl_newZ w (.cells #[.int .i64 ca,.int .i64 cb,.int .i64 cd,.int .i64 ce] 44)
 have HB:=hZq b0
 have G:=newQ w (.cells #[.int .i64 ca,.int .i64 cb,.int .i64 cd,.int .i64 ce] 44)
 replace G:=hZq G
 clear b0
 have HV:=hZq hv
 have HVL:=hZq (fun X (hX:Below w.heap.size w X) => hv.later hX)
 clear hv
 go_enter Tryz.func5,Tryz.ntmps5
 obtain⟨⟨Gc0,Gc1,Gc2,Gc3⟩,⟨Gf0,Gf1,Gf2,Gf3⟩⟩:=blk4 G.out
 go_wp2_with fail
 clear Gc0 Gc1 Gc2 Gc3 Gf0 Gf1 Gf2 Gf3
 refine (rpmay_any ca cb cd ce HP _).mono ?_
 rintro e w2 ⟨rfl,b2⟩
 replace G:=hZq (upQ G.out b2)
 replace HB:=hZq (below2Z HB.out b2)
 clear b2
 go_wp2_with fail
 refine (fewc_any (HVL.out _ HB.out) 40 HF).mono ?_
 rintro e w3 ⟨rfl,b3⟩
 replace G:=hZq (upQ G.out b3)
 replace HB:=hZq (below2Z HB.out b3)
 clear b3
 obtain⟨⟨Gc0,Gc1,Gc2,Gc3⟩,⟨Gf0,Gf1,Gf2,Gf3⟩⟩:=blk4 G.out
 go_wp2_with fail
 clear Gc0 Gc1 Gc2 Gc3 Gf0 Gf1 Gf2 Gf3
 refine (lnew_eq ca cb cd ce 0 HNW _).mono ?_
 rintro e w4 ⟨rfl,b4⟩
 replace G:=hZq (upQ G.out b4)
 replace HB:=hZq (below2Z HB.out b4)
 clear b4
 go_upto_region 4 with fail
 have hGL:=(Array.getElem?_eq_some_iff.1 G.out).1
 have b5:=bl_newZ w4 (.cells #[.int .i64 0,.slice none 0 0,.bool false,.int .i64 cb,.int .i64 0,.bool true,.int .i64 0] 53)
 have LB:=newQ w4 (.cells #[.int .i64 0,.slice none 0 0,.bool false,.int .i64 cb,.int .i64 0,.bool true,.int .i64 0] 53)
 have hLB:w.heap.size≤w4.heap.size:=HB.out.size
 replace G:=hZq (upQ G.out b5)
 replace HB:=hZq (below2Z HB.out b5)
 clear b5
 replace LB:=hZq LB
 generalize w4.alloc (.cells #[.int .i64 0,.slice none 0 0,.bool false,.int .i64 cb,.int .i64 0,.bool true,.int .i64 0] 53)=w6 at G LB HB ⊢
 generalize w4.heap.size=BL at LB hLB hGL ⊢
 go_wp2_with fail
 refine (clnew_any _).mono ?_
 rintro e w7 ⟨rfl,b7⟩
 replace G:=hZq (upQ G.out b7)
 replace LB:=hZq (upQ LB.out b7)
 replace HB:=hZq (below2Z HB.out b7)
 clear b7
 go_upto_region 7 with fail
 have hLC:=(Array.getElem?_eq_some_iff.1 LB.out).1
 have hGC:=(Array.getElem?_eq_some_iff.1 G.out).1
 have b8:=bl_newZ w7 (.cells #[.slice none 0 0,.int .i64 0,.bool false] 24)
 have CC:=newQ w7 (.cells #[.slice none 0 0,.int .i64 0,.bool false] 24)
 have hCC:w.heap.size≤w7.heap.size:=HB.out.size
 replace G:=hZq (upQ G.out b8)
 replace LB:=hZq (upQ LB.out b8)
 replace HB:=hZq (below2Z HB.out b8)
 clear b8
 replace CC:=hZq CC
 generalize w7.alloc (.cells #[.slice none 0 0,.int .i64 0,.bool false] 24)=w9 at G LB CC HB ⊢
 generalize w7.heap.size=BC at CC hCC hLC hGC ⊢
 go_wp2_with fail
 go_loopw [8,9] (fun pv i wr => ∃ (k:Nat) (seq tok at' dg:Int) (sn:Bool) (ql:List Chg) (qa ua va:Option Addr) (qc uc vc:Nat) (t vw:List Row),k≤l.length∧i=.int .i64 k∧pv=.slice va vw.length vc∧Hid (FolAt ⟨ca,cb,cd,ce⟩ ⟨t,seq,false⟩ ⟨seq,⟨ql,false⟩,⟨tok,at'⟩,sn,dg⟩ vw)∧Hid (diMay vw=true∧vw.length≤16)∧Hid (wr.heap[w.heap.size]?=some (.cells #[.int .i64 ca,.int .i64 cb,.int .i64 cd,.int .i64 ce] 44 (0,0)))∧Hid (wr.heap[BL]?=some (.cells #[.int .i64 seq,.slice qa ql.length qc,.bool false,.int .i64 tok,.int .i64 at',.bool sn,.int .i64 dg] 53 (0,0)))∧Hid (wr.heap[BC]?=some (.cells #[.slice ua t.length uc,.int .i64 seq,.bool false] 24 (0,0)))∧Hid (Chgs wr (.slice qa ql.length qc) ql)∧Hid (Tab wr (.slice ua t.length uc) t)∧Hid (Tab wr (.slice va vw.length vc) vw)∧Hid (Below w.heap.size w wr)) (fun _ i _ => l.length - (intOf i).toNat)
 case atStart => exact⟨0,0,cb,0,0,true,[],none,none,none,0,0,0,[],[],by omega,rfl,rfl,hZq (new_fol HP.out).2,hZq ⟨by decide,by decide⟩,G,LB,CC,hZq (chgs_nil _),hZq (tab_nilC _),hZq (tab_nilC _),HB⟩
 case round =>
  obtain⟨k,seq,tok,at',dg,sn,ql,qa,ua,va,qc,uc,vc,t,vw,hk,rfl,rfl,HFO,HVW,G,LB,CC,HQ,TT,TV,HB⟩:=hrel
  by_cases hlt:k < l.length
  case neg =>
   go_wp2_with fail
   refine (live19 _).mono ?_
   rintro e w801 ⟨rfl,b801⟩
   replace HB:=hZq (below2Z HB.out b801)
   clear b801
   go_wp2_with fail
   go_ret
   exact⟨rfl,HB.out⟩
  case pos =>
   obtain⟨rb,off,rfl,z0,-⟩:=HV.out.row (Below.refl _ _) k hlt
   have hrb:rb < w.heap.size:=World.block_lt_of_cell? w _ z0
   clear z0
   obtain⟨p,hp⟩ : ∃ p,l.getD k Chg.zero=p:=⟨_,rfl⟩
   have hpl:p.c.length≤60∧p.v.st.length≤100:=by
    rw [← hp]
    refine HSC.out _ ?_
    rw [List.getD_eq_getElem?_getD,List.getElem?_eq_getElem hlt]
    exact List.getElem_mem hlt
   have HROW:Hid (∀ X,Below w.heap.size w X→Cells6 X rb (off+k * 6) p):=hZq (fun X hX => by
    obtain⟨b2,off2,e,hc⟩:=HV.out.row hX k hlt
    simp only [Option.some.injEq,Addr.mk.injEq] at e
    obtain⟨rfl,rfl,-⟩:=e
    rw [hp] at hc
    exact hc)
   clear hp
   obtain⟨xc,xo,⟨xa,xb,xd,xs⟩⟩:=p
   simp only at hpl
   obtain⟨hp1,hp2⟩:=hpl
   obtain⟨hvm,hv16⟩:=HVW.out
   have hlt0:decide (k < l.length)=true:=decide_eq_true hlt
   have HSV:=hZq (short_in hvm)
   have hW:=waitsC HFO.out.may
   simp only at hW
   have hq16:=hW.1
   have HSQ:Hid (ShortC ql):=hZq (fun y hy => by
    have h1:=hW.2.1 y hy
    unfold quOne at h1
    simp only [Bool.and_eq_true] at h1
    have h2:=(idIs_parts h1.1).2.1
    refine ⟨by omega,?_⟩
    cases ho:y.on with
    | true => rw [ho] at h1; have:=(vaMay_parts h1.2).2.2.2.2.2.2; omega
    | false => rw [ho] at h1; rw [vSame_iff.1 h1.2]; simp [Val.zero])
   clear hW
   have htm:=(clMay_parts HFO.out.cm).2.2
   simp only at htm
   have HST:=hZq (short_in htm)
   have ht32:=(diMay_iff.1 htm).1
   clear hvm htm
   obtain⟨r,hr⟩ : ∃ r,quOne ⟨xc,xo,⟨xa,xb,xd,xs⟩⟩=r:=⟨_,rfl⟩
   have HR:=hZq hr
   obtain⟨q0,q1,q2,q3,q4,q5⟩:=HROW.out _ HB.out
   simp only at q0 q1 q2 q3 q4 q5
   go_wp2_with fail
   clear q0 q1 q2 q3 q4 q5
   refine (rquone_any xc xs xo xa xb xd (by omega) (by omega) HR _).mono ?_
   rintro e w101 ⟨rfl,b101⟩
   replace G:=hZq (upQ G.out b101)
   replace LB:=hZq (upQ LB.out b101)
   replace CC:=hZq (upQ CC.out b101)
   replace HQ:=hZq (Chgs.later HQ.out b101)
   replace TT:=hZq (Tab.later TT.out b101)
   replace TV:=hZq (Tab.later TV.out b101)
   replace HB:=hZq (below2Z HB.out b101)
   clear b101
   cases r with
   | false =>
    clear HR hr
    obtain⟨⟨⟨mseq,⟨mql,mla⟩,⟨mtok,mat'⟩,msn,mdg⟩,fs⟩,hE⟩ : ∃ p,lnEmit ⟨ca,cb,cd,ce⟩ ⟨seq,⟨ql,false⟩,⟨tok,at'⟩,sn,dg⟩ vw k=p:=⟨_,rfl⟩
    have hpt:pcTime (k:Int)=true:=pcTime_iff.2 ⟨by omega,by omega⟩
    have hE2:=hE
    rw [emit_run HFO.out.may HVW.out.1 hpt] at hE2
    have hfr:=fol_run HVW.out.1 hv16 hpt 65 HFO.out
    have hrm:=(run_may HVW.out.1 hpt 65 ⟨seq,⟨ql,false⟩,⟨tok,at'⟩,sn,dg⟩ HFO.out.may).2.2.2
    have hf64:=run_64 HFO.out.may HVW.out.1 hpt
    rw [hE2] at hfr hrm hf64
    simp only at hf64
    obtain⟨hfa,hfo⟩:=hfr
    simp only at hfa hfo hrm
    have hmla:=(lnMay_iff.1 hfa.may).2.2.2.2.1
    simp only at hmla
    subst hmla
    have hmq:=(waitsC hfa.may).1
    simp only at hmq
    have HFA:=hZq hfa
    have HFOO:=hZq hfo
    have HRM:Hid (∀ i,i < fs.length→frMay (fs.getD i Frm.zero)=true):=hZq (fun i hi => by rw [List.getD_eq_getElem?_getD,List.getElem?_eq_getElem hi]; exact (hrm i hi).1)
    have HE:=hZq hE
    clear hE hE2 hfa hfo hrm hpt
    obtain⟨⟨Gc0,Gc1,Gc2,Gc3⟩,⟨Gf0,Gf1,Gf2,Gf3⟩⟩:=blk4 G.out
    obtain⟨⟨LBc0,LBc1,LBc2,LBc3,LBc4,LBc5,LBc6⟩,⟨LBf0,LBf1,LBf2,LBf3,LBf4,LBf5,LBf6⟩⟩:=blk7 LB.out
    go_wp2_with fail
    clear Gc0 Gc1 Gc2 Gc3 Gf0 Gf1 Gf2 Gf3 LBc0 LBc1 LBc2 LBc3 LBc4 LBc5 LBc6 LBf0 LBf1 LBf2 LBf3 LBf4 LBf5 LBf6
    refine (lemit_eq HQ.out TV.out HSQ.out (by omega) HSV.out ca cb cd ce seq tok at' dg k false sn HE).mono ?_
    rintro e w201 ⟨uM,fv,ps,rfl,hM,kM,mM,b201⟩
    replace G:=hZq (upQ G.out b201)
    replace LB:=hZq (upQ LB.out b201)
    replace CC:=hZq (upQ CC.out b201)
    replace HQ:=hZq (Chgs.later HQ.out b201)
    replace TT:=hZq (Tab.later TT.out b201)
    replace TV:=hZq (Tab.later TV.out b201)
    replace HB:=hZq (below2Z HB.out b201)
    obtain⟨mqa,mqc,rfl,-⟩:=hM.open'
    obtain⟨fa,fcp,rfl,-⟩:=kf_cells kM mM
    have HQM:=hZq hM
    have HKF:=hZq kM
    have HPS:=hZq mM
    clear hM kM mM
    clear b201
    go_upto_region 18 with fail
    have hLx:=(Array.getElem?_eq_some_iff.1 LB.out).1
    have hCx:=(Array.getElem?_eq_some_iff.1 CC.out).1
    have b202:=bl_newZ w201 (.cells #[.int .i64 mseq,.slice mqa mql.length mqc,.bool false,.int .i64 mtok,.int .i64 mat',.bool msn,.int .i64 mdg] 53)
    have LM:=newQ w201 (.cells #[.int .i64 mseq,.slice mqa mql.length mqc,.bool false,.int .i64 mtok,.int .i64 mat',.bool msn,.int .i64 mdg] 53)
    have hLM:w.heap.size≤w201.heap.size:=HB.out.size
    replace G:=hZq (upQ G.out b202)
    replace LB:=hZq (upQ LB.out b202)
    replace CC:=hZq (upQ CC.out b202)
    replace HQ:=hZq (Chgs.later HQ.out b202)
    replace TT:=hZq (Tab.later TT.out b202)
    replace TV:=hZq (Tab.later TV.out b202)
    replace HQM:=hZq (Chgs.later HQM.out b202)
    replace HKF:=hZq (KF.later HKF.out b202)
    replace HB:=hZq (below2Z HB.out b202)
    clear b202
    replace LM:=hZq LM
    generalize w201.alloc (.cells #[.int .i64 mseq,.slice mqa mql.length mqc,.bool false,.int .i64 mtok,.int .i64 mat',.bool msn,.int .i64 mdg] 53)=w203 at G LB CC LM HQ TT TV HQM HKF HB ⊢
    generalize w201.heap.size=BM at LM hLM hLx hCx ⊢
    clear HQ HE HSQ
    go_wp2_with fail
    go_loopw [13] (fun i wx => ∃ (j:Nat) (jt:List Row) (jn:Int) (ja:Option Addr) (jc:Nat),j≤fs.length∧i=.int .i64 j∧Hid ((fs.take j).foldl clFeed ⟨t,seq,false⟩=⟨jt,jn,false⟩)∧Hid (wx.heap[BC]?=some (.cells #[.slice ja jt.length jc,.int .i64 jn,.bool false] 24 (0,0)))∧Hid (wx.heap[w.heap.size]?=some (.cells #[.int .i64 ca,.int .i64 cb,.int .i64 cd,.int .i64 ce] 44 (0,0)))∧Hid (wx.heap[BL]?=some (.cells #[.int .i64 seq,.slice qa ql.length qc,.bool false,.int .i64 tok,.int .i64 at',.bool sn,.int .i64 dg] 53 (0,0)))∧Hid (wx.heap[BM]?=some (.cells #[.int .i64 mseq,.slice mqa mql.length mqc,.bool false,.int .i64 mtok,.int .i64 mat',.bool msn,.int .i64 mdg] 53 (0,0)))∧Hid (Tab wx (.slice ja jt.length jc) jt)∧Hid (Tab wx (.slice va vw.length vc) vw)∧Hid (Chgs wx (.slice mqa mql.length mqc) mql)∧Hid (KF w101 wx (.slice fa fs.length fcp) ps)∧Hid (Below w.heap.size w wx)) (fun i _ => fs.length - (intOf i).toNat)
    case atStart => exact⟨0,t,seq,ua,uc,by omega,rfl,hZq rfl,CC,G,LB,LM,TT,TV,HQM,HKF,HB⟩
    case round =>
     obtain⟨j,jt,jn,ja,jc,hj,rfl,HJ,CC,G,LB,LM,TJ,TV,HQM,HKF,HB⟩:=hrel
     by_cases hjl:j < fs.length
     case pos =>
      obtain⟨xa2,xc2,hshape,hkc⟩:=kf_cells HKF.out HPS.out
      simp only [Value.slice.injEq,true_and] at hshape
      obtain⟨rfl,rfl⟩:=hshape
      obtain⟨g,pa,pc,rfl,hc,ht⟩:=hkc j hjl
      have hgB:¬ g=BC:=by
       intro e
       have h1:=own_not HKF.out.1 CC.out (by decide) fs.length fcp
       exact h1 (by rw [e])
      have hma:=HRM.out j hjl
      have hnx:=clfold_next (c:=⟨t,seq,false⟩) hjl
      have hoo:=HFOO.out (j+1) (by omega)
      have hoj:=(HFOO.out j hj).2
      rw [hnx] at hoo
      rw [HJ.out] at hnx hoo hoj
      generalize fs.getD j Frm.zero=f at hc ht hma hnx hoo
      obtain⟨fk,fs2,fon,fc,⟨fsh,fpr,fsi,fst⟩,fsum,ft⟩:=f
      obtain⟨m1,m2,m3,m4,m5⟩:=may_all hma
      simp only at m1 m2 m3 m4 m5 ht
      obtain⟨⟨t3,n3,o3⟩,hfd⟩ : ∃ zz,clFeed ⟨jt,jn,false⟩ ⟨fk,fs2,fon,fc,⟨fsh,fpr,fsi,fst⟩,fsum,ft⟩=zz:=⟨_,rfl⟩
      rw [hfd] at hoo hnx
      have ho3:o3=false:=hoo.1
      subst ho3
      have HNX:=hZq hnx
      have HFD:=hZq hfd
      have HSF:=hZq m1
      have HTF:=hZq ht
      have hjm:=(clMay_parts hoj).2.2
      simp only at hjm
      have HSJ:=hZq (short_in hjm)
      have hj32:=(diMay_iff.1 hjm).1
      have hjl0:decide (j < fs.length)=true:=decide_eq_true hjl
      have q0:wr.cell? ⟨g,j * 10,none⟩=some (.int .i64 fk):=hc 0 _ rfl
      have q1:wr.cell? ⟨g,j * 10+1,none⟩=some (.int .i64 fs2):=hc 1 _ rfl
      have q2:wr.cell? ⟨g,j * 10+2,none⟩=some (.bool fon):=hc 2 _ rfl
      have q3:wr.cell? ⟨g,j * 10+3,none⟩=some (.string ⟨fc.toArray⟩):=hc 3 _ rfl
      have q4:wr.cell? ⟨g,j * 10+4,none⟩=some (.int .i64 fsh):=hc 4 _ rfl
      have q5:wr.cell? ⟨g,j * 10+5,none⟩=some (.int .i64 fpr):=hc 5 _ rfl
      have q6:wr.cell? ⟨g,j * 10+6,none⟩=some (.int .i64 fsi):=hc 6 _ rfl
      have q7:wr.cell? ⟨g,j * 10+7,none⟩=some (.string ⟨fst.toArray⟩):=hc 7 _ rfl
      have q8:wr.cell? ⟨g,j * 10+8,none⟩=some (.int .u64 fsum):=hc 8 _ rfl
      have q9:wr.cell? ⟨g,j * 10+9,none⟩=some (.slice pa ft.length pc):=hc 9 _ rfl
      clear hc ht hkc hma hnx hoo hoj hjm hfd m1
      go_upto_region 21 with fail
      obtain⟨BS,hBS⟩ : ∃ BS:List (Nat × List Value),BS=[]:=⟨_,rfl⟩
      obtain⟨CS,hCS⟩ : ∃ CS:List (Nat × Nat × Value),CS=[(g,j * 10,.int .i64 fk),(g,j * 10+1,.int .i64 fs2),(g,j * 10+2,.bool fon),(g,j * 10+3,.string ⟨fc.toArray⟩),(g,j * 10+4,.int .i64 fsh),(g,j * 10+5,.int .i64 fpr),(g,j * 10+6,.int .i64 fsi),(g,j * 10+7,.string ⟨fst.toArray⟩),(g,j * 10+8,.int .u64 fsum),(g,j * 10+9,.slice pa ft.length pc)]:=⟨_,rfl⟩
      have D0:=hZq (show heldC wr CS from by rw [hCS]; exact heldC_cons (q0) (heldC_cons (q1) (heldC_cons (q2) (heldC_cons (q3) (heldC_cons (q4) (heldC_cons (q5) (heldC_cons (q6) (heldC_cons (q7) (heldC_cons (q8) (heldC_cons (q9) (heldC_nil _)))))))))))
      have hq0:∀ X,heldC X CS→X.cell? ⟨g,j * 10,none⟩=some (.int .i64 fk):=fun X hx => heldC_get hx (by rw [hCS]; simp)
      have hq1:∀ X,heldC X CS→X.cell? ⟨g,j * 10+1,none⟩=some (.int .i64 fs2):=fun X hx => heldC_get hx (by rw [hCS]; simp)
      have hq2:∀ X,heldC X CS→X.cell? ⟨g,j * 10+2,none⟩=some (.bool fon):=fun X hx => heldC_get hx (by rw [hCS]; simp)
      have hq3:∀ X,heldC X CS→X.cell? ⟨g,j * 10+3,none⟩=some (.string ⟨fc.toArray⟩):=fun X hx => heldC_get hx (by rw [hCS]; simp)
      have hq4:∀ X,heldC X CS→X.cell? ⟨g,j * 10+4,none⟩=some (.int .i64 fsh):=fun X hx => heldC_get hx (by rw [hCS]; simp)
      have hq5:∀ X,heldC X CS→X.cell? ⟨g,j * 10+5,none⟩=some (.int .i64 fpr):=fun X hx => heldC_get hx (by rw [hCS]; simp)
      have hq6:∀ X,heldC X CS→X.cell? ⟨g,j * 10+6,none⟩=some (.int .i64 fsi):=fun X hx => heldC_get hx (by rw [hCS]; simp)
      have hq7:∀ X,heldC X CS→X.cell? ⟨g,j * 10+7,none⟩=some (.string ⟨fst.toArray⟩):=fun X hx => heldC_get hx (by rw [hCS]; simp)
      have hq8:∀ X,heldC X CS→X.cell? ⟨g,j * 10+8,none⟩=some (.int .u64 fsum):=fun X hx => heldC_get hx (by rw [hCS]; simp)
      have hq9:∀ X,heldC X CS→X.cell? ⟨g,j * 10+9,none⟩=some (.slice pa ft.length pc):=fun X hx => heldC_get hx (by rw [hCS]; simp)
      have hCN:Hid (∀ p ∈ CS,¬ p.1=BC):=hZq (by rw [hCS]; intro p hp; simp only [List.mem_cons,List.not_mem_nil,or_false] at hp; rcases hp with rfl | rfl | rfl | rfl | rfl | rfl | rfl | rfl | rfl | rfl <;> exact hgB)
      clear hCS
      clear hBS
      have K0:Hid (Below wr.heap.size wr wr.drew):=hZq (Below.refl _ _).drew
      refine wp_region_held_drew (S:=(fun X => heldC X CS)) (by kernel_rfl) ?_ (fun hHeld => ?_)
      ·exact heldC_up K0.out D0.out
      generalize wr.drew=z0 at K0 hHeld ⊢
      refine wpAnyH_take (i:=1) (oi:=⟨some 80,.move (.tmp 12),62,"law.go:138",#[],none⟩) (v:=?_) rfl (by as_aux_lemma => kernel_rfl) (by as_aux_lemma => kernel_rfl) (by as_aux_lemma => kernel_rfl) (fun _ _ _ h => h) (Or.inl ⟨by rfl,?_⟩) (by assumption) ?_
      rotate_left
      ·intro w' hSw
       try dsimp only at hSw
       go_simp
       try with_reducible rfl
      try simp only [Act.put,List.setIfInBounds_toArray,List.set_cons_zero,List.set_cons_succ]
      refine wpAnyH_take (i:=2) (oi:=⟨some 81,.move (.tmp 13),3,"law.go:138",#[],none⟩) (v:=?_) rfl (by as_aux_lemma => kernel_rfl) (by as_aux_lemma => kernel_rfl) (by as_aux_lemma => kernel_rfl) (fun _ _ _ h => h) (Or.inl ⟨by rfl,?_⟩) (by assumption) ?_
      rotate_left
      ·intro w' hSw
       try dsimp only at hSw
       go_simp
       try with_reducible rfl
      try simp only [Act.put,List.setIfInBounds_toArray,List.set_cons_zero,List.set_cons_succ]
      refine wpAnyH_take (i:=3) (oi:=⟨some 82,.indexAddr 62 (.tmp 80) (.tmp 81),0,"law.go:138",#[⟨1,.data⟩,⟨2,.data⟩],none⟩) (v:=?_) rfl (by as_aux_lemma => kernel_rfl) (by as_aux_lemma => kernel_rfl) (by as_aux_lemma => kernel_rfl) (fun _ _ _ h => h) (Or.inl ⟨by rfl,?_⟩) (by assumption) ?_
      rotate_left
      ·intro w' hSw
       try dsimp only at hSw
       go_simp
       try with_reducible rfl
      try simp only [Act.put,List.setIfInBounds_toArray,List.set_cons_zero,List.set_cons_succ]
      refine wpAnyH_take (i:=4) (oi:=⟨some 83,.load 29 (.tmp 82),29,"law.go:138",#[⟨3,.data⟩],none⟩) (v:=?_) rfl (by as_aux_lemma => kernel_rfl) (by as_aux_lemma => kernel_rfl) (by as_aux_lemma => kernel_rfl) (fun _ _ _ h => h) (Or.inl ⟨by rfl,?_⟩) (by assumption) ?_
      rotate_left
      ·intro w' hSw
       try dsimp only at hSw
       go_simp
       try with_reducible rfl
      try simp only [Act.put,List.setIfInBounds_toArray,List.set_cons_zero,List.set_cons_succ]
      obtain⟨⟨q0,q1,q2⟩,-⟩:=blk3 (upQ CC.out (K0.out))
      refine wpAnyH_ready (rs:=[0]) (by as_aux_lemma => kernel_rfl) (by simp) ?_
      refine AllReadyH.cons (o:=⟨some 79,.load 24 (.tmp 7),24,"law.go:138",#[],none⟩) rfl (fun Kx hK => ?_) AllReadyH.nil
      go_simp
      refine hK.out _ _ ?_ (fun hHeld2 => ?_)
      ·exact heldC_up (K0.out) D0.out
      clear hK Kx hHeld q0 q1 q2
      have hHeld:=hHeld2
      clear hHeld2
      try simp only [Act.put,List.setIfInBounds_toArray,List.set_cons_zero,List.set_cons_succ]
      refine wpAnyH_ready (rs:=[5]) (by as_aux_lemma => kernel_rfl) (by simp) ?_
      refine AllReadyH.cons (o:=⟨some 84,.call { callee:=.value (.func 18),args:=#[.tmp 79,.tmp 83],argTypes:=#[24,29] },24,"law.go:138",#[⟨0,.data⟩,⟨4,.data⟩],none⟩) rfl (fun Kx hK => ?_) AllReadyH.nil
      go_simp
      refine (clfeed_any (TJ.out.later (K0.out)) (HTF.out.later (K0.out)) jn false HSJ.out HSF.out m3 m4 m5 (by omega) m2 HFD).mono ?_
      rintro e z21002 ⟨uA,rfl,hA,bz21002⟩
      have K21002:=hZq (below2Z K0.out bz21002)
      have D21002:=hZq (heldC_up K21002.out D0.out)
      replace hA:=CT.tab hA (TJ.out.later (K21002.out)) (HTF.out.later (K21002.out))
      obtain⟨ya,yc,rfl,-⟩:=hA.open'
      have TA:=hZq hA
      clear hA
      clear bz21002
      go_wp2_with fail
      refine hK.out _ _ ?_ (fun hHeld2 => ?_)
      ·exact D21002.out
      clear hK Kx hHeld
      have hHeld:=hHeld2
      clear hHeld2
      try simp only [Act.put,List.setIfInBounds_toArray,List.set_cons_zero,List.set_cons_succ]
      obtain⟨⟨r0,r1,r2⟩,⟨g0,g1,g2⟩⟩:=blk3 (upQ CC.out (K21002.out))
      refine wpAnyH_ready (rs:=[6]) (by as_aux_lemma => kernel_rfl) (by simp) ?_
      refine AllReadyH.cons (o:=⟨none,.store 24 (.tmp 7) (.tmp 84),0,"law.go:138",#[⟨5,.data⟩,⟨5,.chain⟩,⟨0,.phase⟩,⟨1,.phase⟩,⟨2,.phase⟩,⟨3,.phase⟩,⟨4,.phase⟩,⟨5,.phase⟩],none⟩) rfl (fun Kx hK => ?_) AllReadyH.nil
      go_simp
      clear r0 r1 r2 g0 g1 g2
      have CCz:=hZq (stN3_heap (upQ CC.out (K21002.out)) (.slice ya t3.length yc) (.int .i64 n3) (.bool false))
      have Gz:=hZq ((stN3_far z21002 BC (.slice ya t3.length yc) (.int .i64 n3) (.bool false) (show ¬ w.heap.size=BC by omega)).trans (upQ G.out (K21002.out)))
      have LBz:=hZq ((stN3_far z21002 BC (.slice ya t3.length yc) (.int .i64 n3) (.bool false) (show ¬ BL=BC by omega)).trans (upQ LB.out (K21002.out)))
      have LMz:=hZq ((stN3_far z21002 BC (.slice ya t3.length yc) (.int .i64 n3) (.bool false) (show ¬ BM=BC by omega)).trans (upQ LM.out (K21002.out)))
      have TAz:=hZq (tab_keepL TA.out (upQ CC.out (K21002.out)) noCli (fun k hk => stN3_far z21002 BC (.slice ya t3.length yc) (.int .i64 n3) (.bool false) hk) (by rw [stN3_size]; exact Nat.le_refl _))
      have TVz:=hZq (tab_keepL (TV.out.later (K21002.out)) (upQ CC.out (K21002.out)) noCli (fun k hk => stN3_far z21002 BC (.slice ya t3.length yc) (.int .i64 n3) (.bool false) hk) (by rw [stN3_size]; exact Nat.le_refl _))
      have HQMz:=hZq (chgs_keep (HQM.out.later (K21002.out)) (upQ CC.out (K21002.out)) noCli (fun k hk => stN3_far z21002 BC (.slice ya t3.length yc) (.int .i64 n3) (.bool false) hk) (by rw [stN3_size]; exact Nat.le_refl _))
      have HKFz:=hZq (KF.past (HKF.out.later (K21002.out)) (upQ CC.out (K21002.out)) (by decide) (by decide) (fun k hk => stN3_far z21002 BC (.slice ya t3.length yc) (.int .i64 n3) (.bool false) hk))
      have HBz:=hZq (stN3_below (below2Z HB.out (K21002.out)) (show w.heap.size≤BC by omega) (.slice ya t3.length yc) (.int .i64 n3) (.bool false))
      have HLD:=hZq (heldC_farF (heldC_up (K21002.out) D0.out) (fun k hk => stN3_far z21002 BC (.slice ya t3.length yc) (.int .i64 n3) (.bool false) hk) hCN.out)
      refine hK.out _ _ ?_ (fun hHeld2 => ?_)
      ·exact HLD.out
      clear hK Kx hHeld HLD CC G LB LM TJ TV HQM HKF HB TA
      have hHeld:=hHeld2
      clear hHeld2
      obtain⟨zs,hzs⟩ : ∃ X,X=stN3 z21002 BC (.slice ya t3.length yc) (.int .i64 n3) (.bool false):=⟨_,rfl⟩
      rw [← hzs] at CCz Gz LBz LMz TAz TVz HQMz HKFz HBz
      unfold stN3 at hzs
      simp only [← hzs] at hHeld ⊢
      clear hzs
      refine wpAnyH_done (by kernel_rfl) ?_ _
      obtain⟨⟨CCc0,CCc1,CCc2⟩,-⟩:=blk3 CCz.out
      go_wp2_with fail
      clear CCc0 CCc1 CCc2
      go_roundw
      case rel => exact⟨j+1,t3,n3,ya,yc,by omega,by go_num,HNX,CCz,Gz,LBz,LMz,TAz,TVz,HQMz,HKFz,HBz⟩
      case measure => simp [intOf]; omega
     case neg =>
      obtain rfl:j=fs.length:=by omega
      have hJ:=HJ.out
      rw [List.take_length] at hJ
      have hfa:=HFA.out
      rw [hJ] at hfa
      have hjn:jn=mseq:=hfa.nx
      subst hjn
      have HF2:=hZq hfa
      clear hfa hJ HJ HFA HFOO HRM HPS
      have hjm:=(clMay_parts HF2.out.cm).2.2
      simp only at hjm
      have hj32:=(diMay_iff.1 hjm).1
      clear hjm
      obtain⟨⟨LMc0,LMc1,LMc2,LMc3,LMc4,LMc5,LMc6⟩,⟨LMf0,LMf1,LMf2,LMf3,LMf4,LMf5,LMf6⟩⟩:=blk7 LM.out
      obtain⟨⟨LBc0,LBc1,LBc2,LBc3,LBc4,LBc5,LBc6⟩,⟨LBf0,LBf1,LBf2,LBf3,LBf4,LBf5,LBf6⟩⟩:=blk7 LB.out
      go_upto_region 25 with fail
      clear LMc0 LMc1 LMc2 LMc3 LMc4 LMc5 LMc6 LMf0 LMf1 LMf2 LMf3 LMf4 LMf5 LMf6 LBc0 LBc1 LBc2 LBc3 LBc4 LBc5 LBc6 LBf0 LBf1 LBf2 LBf3 LBf4 LBf5 LBf6
      have LBz:=hZq (stN7_heap LB.out (.int .i64 jn) (.slice mqa mql.length mqc) (.bool false) (.int .i64 mtok) (.int .i64 mat') (.bool msn) (.int .i64 mdg))
      have Gz:=hZq ((stN7_far wr BL (.int .i64 jn) (.slice mqa mql.length mqc) (.bool false) (.int .i64 mtok) (.int .i64 mat') (.bool msn) (.int .i64 mdg) (show ¬ w.heap.size=BL by omega)).trans G.out)
      have CCz:=hZq ((stN7_far wr BL (.int .i64 jn) (.slice mqa mql.length mqc) (.bool false) (.int .i64 mtok) (.int .i64 mat') (.bool msn) (.int .i64 mdg) (show ¬ BC=BL by omega)).trans CC.out)
      have HBz:=hZq (stN7_below HB.out (show w.heap.size≤BL by omega) (.int .i64 jn) (.slice mqa mql.length mqc) (.bool false) (.int .i64 mtok) (.int .i64 mat') (.bool msn) (.int .i64 mdg))
      have HQz:=hZq (chgs_keep HQM.out LB.out (noLink _ _ _ _ _ _ _ _ _) (fun k hk => stN7_far wr BL (.int .i64 jn) (.slice mqa mql.length mqc) (.bool false) (.int .i64 mtok) (.int .i64 mat') (.bool msn) (.int .i64 mdg) hk) (by rw [stN7_size]; exact Nat.le_refl _))
      have TJz:=hZq (tab_keepL TJ.out LB.out (noLink _ _ _ _ _ _ _ _ _) (fun k hk => stN7_far wr BL (.int .i64 jn) (.slice mqa mql.length mqc) (.bool false) (.int .i64 mtok) (.int .i64 mat') (.bool msn) (.int .i64 mdg) hk) (by rw [stN7_size]; exact Nat.le_refl _))
      have TVz:=hZq (tab_keepL TV.out LB.out (noLink _ _ _ _ _ _ _ _ _) (fun k hk => stN7_far wr BL (.int .i64 jn) (.slice mqa mql.length mqc) (.bool false) (.int .i64 mtok) (.int .i64 mat') (.bool msn) (.int .i64 mdg) hk) (by rw [stN7_size]; exact Nat.le_refl _))
      clear LB G CC HB HQM TJ TV LM HKF
      obtain⟨zs,hzs⟩ : ∃ X,X=stN7 wr BL (.int .i64 jn) (.slice mqa mql.length mqc) (.bool false) (.int .i64 mtok) (.int .i64 mat') (.bool msn) (.int .i64 mdg):=⟨_,rfl⟩
      rw [← hzs] at LBz Gz CCz HBz HQz TJz TVz
      unfold stN7 at hzs
      simp only [← hzs]
      clear hzs
      have LB:=LBz
      have G:=Gz
      have CC:=CCz
      have HB:=HBz
      have HQ:=HQz
      have TT:=TJz
      have TV:=TVz
      clear LBz Gz CCz HBz HQz TJz TVz
      have HV2:=HVW
      cases hmsn:msn with
      | true =>
       rw [hmsn] at LB HF2
       clear hmsn
       have HQT:Hid (lnQuiet ⟨jn,⟨mql,false⟩,⟨mtok,mat'⟩,true,mdg⟩=false):=hZq rfl
       obtain⟨⟨LBc0,LBc1,LBc2,LBc3,LBc4,LBc5,LBc6⟩,⟨LBf0,LBf1,LBf2,LBf3,LBf4,LBf5,LBf6⟩⟩:=blk7 LB.out
       obtain⟨⟨CCc0,CCc1,CCc2⟩,⟨CCf0,CCf1,CCf2⟩⟩:=blk3 CC.out
       go_wp2_with fail
       clear LBc0 LBc1 LBc2 LBc3 LBc4 LBc5 LBc6 LBf0 LBf1 LBf2 LBf3 LBf4 LBf5 LBf6 CCc0 CCc1 CCc2 CCf0 CCf1 CCf2
       refine (lquiet_any HQ.out false true jn mtok mat' mdg HQT).mono ?_
       rintro e w521 ⟨rfl,b521⟩
       replace G:=hZq (upQ G.out b521)
       replace LB:=hZq (upQ LB.out b521)
       replace CC:=hZq (upQ CC.out b521)
       replace HQ:=hZq (Chgs.later HQ.out b521)
       replace TT:=hZq (Tab.later TT.out b521)
       replace TV:=hZq (Tab.later TV.out b521)
       replace HB:=hZq (below2Z HB.out b521)
       clear b521
       go_wp2_with fail
       go_roundw
       case rel => exact⟨k+1,jn,mtok,mat',mdg,true,mql,mqa,ja,va,mqc,jc,vc,jt,vw,by omega,by go_num,rfl,HF2,HV2,G,LB,CC,HQ,TT,TV,HB⟩
       case measure => simp [intOf]; omega
      | false =>
       rw [hmsn] at LB HF2
       clear hmsn
       have hov:=HF2.out.ov rfl
       simp only at hov
       have HOV:=hZq hov
       clear hov
       obtain⟨qq,hqq⟩ : ∃ qq,lnQuiet ⟨jn,⟨mql,false⟩,⟨mtok,mat'⟩,false,mdg⟩=qq:=⟨_,rfl⟩
       have HQT:=hZq hqq
       obtain⟨⟨LBc0,LBc1,LBc2,LBc3,LBc4,LBc5,LBc6⟩,⟨LBf0,LBf1,LBf2,LBf3,LBf4,LBf5,LBf6⟩⟩:=blk7 LB.out
       obtain⟨⟨CCc0,CCc1,CCc2⟩,⟨CCf0,CCf1,CCf2⟩⟩:=blk3 CC.out
       go_wp2_with fail
       clear LBc0 LBc1 LBc2 LBc3 LBc4 LBc5 LBc6 LBf0 LBf1 LBf2 LBf3 LBf4 LBf5 LBf6 CCc0 CCc1 CCc2 CCf0 CCf1 CCf2
       refine (rquover_any TT.out (by omega) HQ.out (by omega) false).mono ?_
       rintro e w561 ⟨uo,rfl,huo,b561⟩
       replace G:=hZq (upQ G.out b561)
       replace LB:=hZq (upQ LB.out b561)
       replace CC:=hZq (upQ CC.out b561)
       replace HQ:=hZq (Chgs.later HQ.out b561)
       replace TT:=hZq (Tab.later TT.out b561)
       replace TV:=hZq (Tab.later TV.out b561)
       replace HB:=hZq (below2Z HB.out b561)
       rw [HOV.out] at huo
       obtain⟨oa,oc,rfl,-⟩:=huo.open'
       have TO:=hZq huo
       clear huo
       clear b561
       go_wp2_with fail
       refine (tsame_eq TO.out TV.out (hZq (tSame_iff.2 rfl))).mono ?_
       rintro e w562 ⟨rfl,b562⟩
       replace G:=hZq (upQ G.out b562)
       replace LB:=hZq (upQ LB.out b562)
       replace CC:=hZq (upQ CC.out b562)
       replace HQ:=hZq (Chgs.later HQ.out b562)
       replace TT:=hZq (Tab.later TT.out b562)
       replace TV:=hZq (Tab.later TV.out b562)
       replace TO:=hZq (Tab.later TO.out b562)
       replace HB:=hZq (below2Z HB.out b562)
       clear b562
       obtain⟨⟨LBc0,LBc1,LBc2,LBc3,LBc4,LBc5,LBc6⟩,⟨LBf0,LBf1,LBf2,LBf3,LBf4,LBf5,LBf6⟩⟩:=blk7 LB.out
       go_wp2_with fail
       clear LBc0 LBc1 LBc2 LBc3 LBc4 LBc5 LBc6 LBf0 LBf1 LBf2 LBf3 LBf4 LBf5 LBf6
       refine (lquiet_any HQ.out false false jn mtok mat' mdg HQT).mono ?_
       rintro e w563 ⟨rfl,b563⟩
       replace G:=hZq (upQ G.out b563)
       replace LB:=hZq (upQ LB.out b563)
       replace CC:=hZq (upQ CC.out b563)
       replace HQ:=hZq (Chgs.later HQ.out b563)
       replace TT:=hZq (Tab.later TT.out b563)
       replace TV:=hZq (Tab.later TV.out b563)
       replace TO:=hZq (Tab.later TO.out b563)
       replace HB:=hZq (below2Z HB.out b563)
       clear b563
       cases qq with
       | false =>
        go_wp2_with fail
        go_roundw
        case rel => exact⟨k+1,jn,mtok,mat',mdg,false,mql,mqa,ja,va,mqc,jc,vc,jt,vw,by omega,by go_num,rfl,HF2,HV2,G,LB,CC,HQ,TT,TV,HB⟩
        case measure => simp [intOf]; omega
       | true =>
        have heq:jt=vw:=by
         have h1:mql=[]:=by
          unfold lnQuiet quEmpty at hqq
          simp only [Bool.and_eq_true,decide_eq_true_eq,List.length_eq_zero_iff] at hqq
          exact hqq.2.1
         have h2:=HOV.out
         rw [h1] at h2
         exact h2
        have HSE:=hZq (tSame_iff.2 heq)
        clear heq hqq
        obtain⟨⟨CCc0,CCc1,CCc2⟩,⟨CCf0,CCf1,CCf2⟩⟩:=blk3 CC.out
        go_wp2_with fail
        clear CCc0 CCc1 CCc2 CCf0 CCf1 CCf2
        refine (tsame_eq TT.out TV.out HSE).mono ?_
        rintro e w564 ⟨rfl,b564⟩
        replace G:=hZq (upQ G.out b564)
        replace LB:=hZq (upQ LB.out b564)
        replace CC:=hZq (upQ CC.out b564)
        replace HQ:=hZq (Chgs.later HQ.out b564)
        replace TT:=hZq (Tab.later TT.out b564)
        replace TV:=hZq (Tab.later TV.out b564)
        replace TO:=hZq (Tab.later TO.out b564)
        replace HB:=hZq (below2Z HB.out b564)
        clear b564
        go_wp2_with fail
        go_roundw
        case rel => exact⟨k+1,jn,mtok,mat',mdg,false,mql,mqa,ja,va,mqc,jc,vc,jt,vw,by omega,by go_num,rfl,HF2,HV2,G,LB,CC,HQ,TT,TV,HB⟩
        case measure => simp [intOf]; omega
   | true =>
    clear HR
    obtain⟨pvw,hpv⟩ : ∃ y,diSet vw ⟨xc,xo,⟨xa,xb,xd,xs⟩⟩=y:=⟨_,rfl⟩
    have HPV:=hZq hpv
    have HSP:Hid (Short pvw):=hZq (by rw [← hpv]; exact clset_short HSV.out (show xc.length≤4294967296 by omega) (show xs.length≤4294967296 by omega))
    clear hpv
    have hv1000:vw.length≤1000:=by omega
    obtain⟨q0,q1,q2,q3,q4,q5⟩:=HROW.out _ HB.out
    simp only at q0 q1 q2 q3 q4 q5
    go_wp2_with fail
    clear q0 q1 q2 q3 q4 q5
    refine (rset_eqF TV.out hv1000 xc xs xo xa xb xd).mono ?_
    rintro e w601 ⟨uS,rfl,hS,b601⟩
    replace G:=hZq (upQ G.out b601)
    replace LB:=hZq (upQ LB.out b601)
    replace CC:=hZq (upQ CC.out b601)
    replace HQ:=hZq (Chgs.later HQ.out b601)
    replace TT:=hZq (Tab.later TT.out b601)
    replace TV:=hZq (Tab.later TV.out b601)
    replace HB:=hZq (below2Z HB.out b601)
    rw [HPV.out] at hS
    obtain⟨pva,pvc,rfl,-⟩:=Tab.open' (OwnR.tab hS)
    have TP:=hZq (OwnR.tab hS)
    clear hS
    clear b601
    go_wp2_with fail
    obtain⟨m,hm⟩ : ∃ m,diMay pvw=m:=⟨_,rfl⟩
    have HM:=hZq hm
    refine (rdimay_eq TP.out HSP.out HM).mono ?_
    rintro e w602 ⟨rfl,b602⟩
    replace G:=hZq (upQ G.out b602)
    replace LB:=hZq (upQ LB.out b602)
    replace CC:=hZq (upQ CC.out b602)
    replace HQ:=hZq (Chgs.later HQ.out b602)
    replace TT:=hZq (Tab.later TT.out b602)
    replace TV:=hZq (Tab.later TV.out b602)
    replace TP:=hZq (Tab.later TP.out b602)
    replace HB:=hZq (below2Z HB.out b602)
    clear b602
    cases m with
    | false =>
     go_wp2_with fail
     refine (live19 _).mono ?_
     rintro e w701 ⟨rfl,b701⟩
     replace HB:=hZq (below2Z HB.out b701)
     clear b701
     go_wp2_with fail
     go_ret
     exact⟨rfl,HB.out⟩
    | true =>
     by_cases h16:16 < pvw.length
     case pos =>
      have g6:decide (16 < (pvw.length:Int))=true:=by rw [decide_eq_true_eq]; omega
      have g6b:decide (16 < pvw.length)=true:=decide_eq_true h16
      go_wp2_with fail
      refine (live19 _).mono ?_
      rintro e w721 ⟨rfl,b721⟩
      replace HB:=hZq (below2Z HB.out b721)
      clear b721
      go_wp2_with fail
      go_ret
      exact⟨rfl,HB.out⟩
     case neg =>
      have g6:decide (16 < (pvw.length:Int))=false:=by rw [decide_eq_false_iff_not]; omega
      have g6b:decide (16 < pvw.length)=false:=decide_eq_false h16
      have HV2:Hid (diMay pvw=true∧pvw.length≤16):=hZq ⟨hm,by omega⟩
      obtain⟨⟨mseq,⟨mql,mla⟩,⟨mtok,mat'⟩,msn,mdg⟩,hE⟩ : ∃ p,lnPush ⟨ca,cb,cd,ce⟩ ⟨seq,⟨ql,false⟩,⟨tok,at'⟩,sn,dg⟩ ⟨xc,xo,⟨xa,xb,xd,xs⟩⟩=p:=⟨_,rfl⟩
      have hfp:=fol_push HFO.out hr
      rw [hE,HPV.out] at hfp
      have hmla:=(lnMay_iff.1 hfp.may).2.2.2.2.1
      simp only at hmla
      subst hmla
      have hmq:=(waitsC hfp.may).1
      simp only at hmq
      have hms:seq=mseq:=hfp.nx
      subst hms
      have HF2:=hZq hfp
      have HE:=hZq hE
      clear hE hfp hm h16 hr
      go_upto_region 16 with fail
      obtain⟨q0,q1,q2,q3,q4,q5⟩:=HROW.out _ HB.out
      simp only at q0 q1 q2 q3 q4 q5
      obtain⟨⟨Gc0,Gc1,Gc2,Gc3⟩,-⟩:=blk4 G.out
      obtain⟨BS,hBS⟩ : ∃ BS:List (Nat × List Value),BS=[]:=⟨_,rfl⟩
      obtain⟨CS,hCS⟩ : ∃ CS:List (Nat × Nat × Value),CS=[(w.heap.size,0,.int .i64 ca),(w.heap.size,1,.int .i64 cb),(w.heap.size,2,.int .i64 cd),(w.heap.size,3,.int .i64 ce),(rb,off+k * 6,.string ⟨xc.toArray⟩),(rb,off+k * 6+1,.bool xo),(rb,off+k * 6+2,.int .i64 xa),(rb,off+k * 6+3,.int .i64 xb),(rb,off+k * 6+4,.int .i64 xd),(rb,off+k * 6+5,.string ⟨xs.toArray⟩)]:=⟨_,rfl⟩
      have D0:=hZq (show heldC w602 CS from by rw [hCS]; exact heldC_cons (Gc0) (heldC_cons (Gc1) (heldC_cons (Gc2) (heldC_cons (Gc3) (heldC_cons (q0) (heldC_cons (q1) (heldC_cons (q2) (heldC_cons (q3) (heldC_cons (q4) (heldC_cons (q5) (heldC_nil _)))))))))))
      have hq0:∀ X,heldC X CS→X.cell? ⟨w.heap.size,0,none⟩=some (.int .i64 ca):=fun X hx => heldC_get hx (by rw [hCS]; simp)
      have hq1:∀ X,heldC X CS→X.cell? ⟨w.heap.size,1,none⟩=some (.int .i64 cb):=fun X hx => heldC_get hx (by rw [hCS]; simp)
      have hq2:∀ X,heldC X CS→X.cell? ⟨w.heap.size,2,none⟩=some (.int .i64 cd):=fun X hx => heldC_get hx (by rw [hCS]; simp)
      have hq3:∀ X,heldC X CS→X.cell? ⟨w.heap.size,3,none⟩=some (.int .i64 ce):=fun X hx => heldC_get hx (by rw [hCS]; simp)
      have hq4:∀ X,heldC X CS→X.cell? ⟨rb,off+k * 6,none⟩=some (.string ⟨xc.toArray⟩):=fun X hx => heldC_get hx (by rw [hCS]; simp)
      have hq5:∀ X,heldC X CS→X.cell? ⟨rb,off+k * 6+1,none⟩=some (.bool xo):=fun X hx => heldC_get hx (by rw [hCS]; simp)
      have hq6:∀ X,heldC X CS→X.cell? ⟨rb,off+k * 6+2,none⟩=some (.int .i64 xa):=fun X hx => heldC_get hx (by rw [hCS]; simp)
      have hq7:∀ X,heldC X CS→X.cell? ⟨rb,off+k * 6+3,none⟩=some (.int .i64 xb):=fun X hx => heldC_get hx (by rw [hCS]; simp)
      have hq8:∀ X,heldC X CS→X.cell? ⟨rb,off+k * 6+4,none⟩=some (.int .i64 xd):=fun X hx => heldC_get hx (by rw [hCS]; simp)
      have hq9:∀ X,heldC X CS→X.cell? ⟨rb,off+k * 6+5,none⟩=some (.string ⟨xs.toArray⟩):=fun X hx => heldC_get hx (by rw [hCS]; simp)
      have hCN:Hid (∀ p ∈ CS,¬ p.1=BL):=hZq (by rw [hCS]; intro p hp; simp only [List.mem_cons,List.not_mem_nil,or_false] at hp; rcases hp with rfl | rfl | rfl | rfl | rfl | rfl | rfl | rfl | rfl | rfl <;> simp only <;> omega)
      clear hCS
      clear hBS
      have K0:Hid (Below w602.heap.size w602 w602.drew):=hZq (Below.refl _ _).drew
      refine wp_region_held_drew (S:=(fun X => heldC X CS)) (by kernel_rfl) ?_ (fun hHeld => ?_)
      ·exact heldC_up K0.out D0.out
      generalize w602.drew=z0 at K0 hHeld ⊢
      refine wpAnyH_take (i:=0) (oi:=⟨some 58,.load 44 (.tmp 2),44,"law.go:134",#[],none⟩) (v:=?_) rfl (by as_aux_lemma => kernel_rfl) (by as_aux_lemma => kernel_rfl) (by as_aux_lemma => kernel_rfl) (fun _ _ _ h => h) (Or.inl ⟨by rfl,?_⟩) (by assumption) ?_
      rotate_left
      ·intro w' hSw
       try dsimp only at hSw
       go_simp
       try with_reducible rfl
      try simp only [Act.put,List.setIfInBounds_toArray,List.set_cons_zero,List.set_cons_succ]
      refine wpAnyH_take (i:=2) (oi:=⟨some 60,.move (.tmp 1),45,"law.go:134",#[],none⟩) (v:=?_) rfl (by as_aux_lemma => kernel_rfl) (by as_aux_lemma => kernel_rfl) (by as_aux_lemma => kernel_rfl) (fun _ _ _ h => h) (Or.inl ⟨by rfl,?_⟩) (by assumption) ?_
      rotate_left
      ·intro w' hSw
       try dsimp only at hSw
       go_simp
       try with_reducible rfl
      try simp only [Act.put,List.setIfInBounds_toArray,List.set_cons_zero,List.set_cons_succ]
      refine wpAnyH_take (i:=3) (oi:=⟨some 61,.move (.tmp 9),3,"law.go:134",#[],none⟩) (v:=?_) rfl (by as_aux_lemma => kernel_rfl) (by as_aux_lemma => kernel_rfl) (by as_aux_lemma => kernel_rfl) (fun _ _ _ h => h) (Or.inl ⟨by rfl,?_⟩) (by assumption) ?_
      rotate_left
      ·intro w' hSw
       try dsimp only at hSw
       go_simp
       try with_reducible rfl
      try simp only [Act.put,List.setIfInBounds_toArray,List.set_cons_zero,List.set_cons_succ]
      refine wpAnyH_take (i:=4) (oi:=⟨some 62,.indexAddr 45 (.tmp 60) (.tmp 61),0,"law.go:134",#[⟨2,.data⟩,⟨3,.data⟩],none⟩) (v:=?_) rfl (by as_aux_lemma => kernel_rfl) (by as_aux_lemma => kernel_rfl) (by as_aux_lemma => kernel_rfl) (fun _ _ _ h => h) (Or.inl ⟨by rfl,?_⟩) (by assumption) ?_
      rotate_left
      ·intro w' hSw
       try dsimp only at hSw
       go_simp
       try with_reducible rfl
      try simp only [Act.put,List.setIfInBounds_toArray,List.set_cons_zero,List.set_cons_succ]
      refine wpAnyH_take (i:=5) (oi:=⟨some 63,.load 58 (.tmp 62),58,"law.go:134",#[⟨4,.data⟩],none⟩) (v:=?_) rfl (by as_aux_lemma => kernel_rfl) (by as_aux_lemma => kernel_rfl) (by as_aux_lemma => kernel_rfl) (fun _ _ _ h => h) (Or.inl ⟨by rfl,?_⟩) (by assumption) ?_
      rotate_left
      ·intro w' hSw
       try dsimp only at hSw
       go_simp
       try with_reducible rfl
      try simp only [Act.put,List.setIfInBounds_toArray,List.set_cons_zero,List.set_cons_succ]
      obtain⟨⟨y0,y1,y2,y3,y4,y5,y6⟩,-⟩:=blk7 (upQ LB.out (K0.out))
      refine wpAnyH_ready (rs:=[1]) (by as_aux_lemma => kernel_rfl) (by simp) ?_
      refine AllReadyH.cons (o:=⟨some 59,.load 53 (.tmp 5),53,"law.go:134",#[],none⟩) rfl (fun Kx hK => ?_) AllReadyH.nil
      go_simp
      refine hK.out _ _ ?_ (fun hHeld2 => ?_)
      ·exact heldC_up (K0.out) D0.out
      clear hK Kx hHeld y0 y1 y2 y3 y4 y5 y6
      have hHeld:=hHeld2
      clear hHeld2
      try simp only [Act.put,List.setIfInBounds_toArray,List.set_cons_zero,List.set_cons_succ]
      refine wpAnyH_ready (rs:=[6]) (by as_aux_lemma => kernel_rfl) (by simp) ?_
      refine AllReadyH.cons (o:=⟨some 64,.call { callee:=.value (.func 32),args:=#[.tmp 58,.tmp 59,.tmp 63],argTypes:=#[44,53,58] },53,"law.go:134",#[⟨0,.data⟩,⟨1,.data⟩,⟨5,.data⟩],none⟩) rfl (fun Kx hK => ?_) AllReadyH.nil
      go_simp
      refine (lpush_eq (HQ.out.later (K0.out)) (by omega) false sn ca cb cd ce seq tok at' dg xa xb xd xo xc xs HE).mono ?_
      rintro e z16002 ⟨uM,rfl,hM,bz16002⟩
      have K16002:=hZq (below2Z K0.out bz16002)
      have D16002:=hZq (heldC_up K16002.out D0.out)
      obtain⟨mqa,mqc,rfl,-⟩:=hM.open'
      have HQM:=hZq hM
      clear hM
      clear bz16002
      go_wp2_with fail
      refine hK.out _ _ ?_ (fun hHeld2 => ?_)
      ·exact D16002.out
      clear hK Kx hHeld
      have hHeld:=hHeld2
      clear hHeld2
      try simp only [Act.put,List.setIfInBounds_toArray,List.set_cons_zero,List.set_cons_succ]
      obtain⟨⟨y0,y1,y2,y3,y4,y5,y6⟩,⟨g0,g1,g2,g3,g4,g5,g6⟩⟩:=blk7 (upQ LB.out (K16002.out))
      refine wpAnyH_ready (rs:=[7]) (by as_aux_lemma => kernel_rfl) (by simp) ?_
      refine AllReadyH.cons (o:=⟨none,.store 53 (.tmp 5) (.tmp 64),0,"law.go:134",#[⟨6,.data⟩,⟨6,.chain⟩,⟨0,.phase⟩,⟨1,.phase⟩,⟨2,.phase⟩,⟨3,.phase⟩,⟨4,.phase⟩,⟨5,.phase⟩,⟨6,.phase⟩],none⟩) rfl (fun Kx hK => ?_) AllReadyH.nil
      go_simp
      clear y0 y1 y2 y3 y4 y5 y6 g0 g1 g2 g3 g4 g5 g6
      have LBz:=hZq (stN7_heap (upQ LB.out (K16002.out)) (.int .i64 seq) (.slice mqa mql.length mqc) (.bool false) (.int .i64 mtok) (.int .i64 mat') (.bool msn) (.int .i64 mdg))
      have Gz:=hZq ((stN7_far z16002 BL (.int .i64 seq) (.slice mqa mql.length mqc) (.bool false) (.int .i64 mtok) (.int .i64 mat') (.bool msn) (.int .i64 mdg) (show ¬ w.heap.size=BL by omega)).trans (upQ G.out (K16002.out)))
      have CCz:=hZq ((stN7_far z16002 BL (.int .i64 seq) (.slice mqa mql.length mqc) (.bool false) (.int .i64 mtok) (.int .i64 mat') (.bool msn) (.int .i64 mdg) (show ¬ BC=BL by omega)).trans (upQ CC.out (K16002.out)))
      have HBz:=hZq (stN7_below (below2Z HB.out (K16002.out)) (show w.heap.size≤BL by omega) (.int .i64 seq) (.slice mqa mql.length mqc) (.bool false) (.int .i64 mtok) (.int .i64 mat') (.bool msn) (.int .i64 mdg))
      have HQz:=hZq (chgs_keep HQM.out (upQ LB.out (K16002.out)) (noLink _ _ _ _ _ _ _ _ _) (fun k hk => stN7_far z16002 BL (.int .i64 seq) (.slice mqa mql.length mqc) (.bool false) (.int .i64 mtok) (.int .i64 mat') (.bool msn) (.int .i64 mdg) hk) (by rw [stN7_size]; exact Nat.le_refl _))
      have TTz:=hZq (tab_keepL (TT.out.later (K16002.out)) (upQ LB.out (K16002.out)) (noLink _ _ _ _ _ _ _ _ _) (fun k hk => stN7_far z16002 BL (.int .i64 seq) (.slice mqa mql.length mqc) (.bool false) (.int .i64 mtok) (.int .i64 mat') (.bool msn) (.int .i64 mdg) hk) (by rw [stN7_size]; exact Nat.le_refl _))
      have TPz:=hZq (tab_keepL (TP.out.later (K16002.out)) (upQ LB.out (K16002.out)) (noLink _ _ _ _ _ _ _ _ _) (fun k hk => stN7_far z16002 BL (.int .i64 seq) (.slice mqa mql.length mqc) (.bool false) (.int .i64 mtok) (.int .i64 mat') (.bool msn) (.int .i64 mdg) hk) (by rw [stN7_size]; exact Nat.le_refl _))
      have HLD:=hZq (heldC_farF (heldC_up (K16002.out) D0.out) (fun k hk => stN7_far z16002 BL (.int .i64 seq) (.slice mqa mql.length mqc) (.bool false) (.int .i64 mtok) (.int .i64 mat') (.bool msn) (.int .i64 mdg) hk) hCN.out)
      refine hK.out _ _ ?_ (fun hHeld2 => ?_)
      ·exact HLD.out
      clear hK Kx hHeld HLD CC G LB TT TV HQ HQM HB TP
      have hHeld:=hHeld2
      clear hHeld2
      obtain⟨zs,hzs⟩ : ∃ X,X=stN7 z16002 BL (.int .i64 seq) (.slice mqa mql.length mqc) (.bool false) (.int .i64 mtok) (.int .i64 mat') (.bool msn) (.int .i64 mdg):=⟨_,rfl⟩
      rw [← hzs] at CCz Gz LBz TTz TPz HQz HBz
      unfold stN7 at hzs
      simp only [← hzs] at hHeld ⊢
      clear hzs
      refine wpAnyH_done (by kernel_rfl) ?_ _
      have LB:=LBz
      have G:=Gz
      have CC:=CCz
      have HB:=HBz
      have HQ:=HQz
      have TT:=TTz
      have TV:=TPz
      clear LBz Gz CCz HBz HQz TTz TPz
      cases hmsn:msn with
      | true =>
       rw [hmsn] at LB HF2
       clear hmsn
       have HQT:Hid (lnQuiet ⟨seq,⟨mql,false⟩,⟨mtok,mat'⟩,true,mdg⟩=false):=hZq rfl
       obtain⟨⟨LBc0,LBc1,LBc2,LBc3,LBc4,LBc5,LBc6⟩,⟨LBf0,LBf1,LBf2,LBf3,LBf4,LBf5,LBf6⟩⟩:=blk7 LB.out
       obtain⟨⟨CCc0,CCc1,CCc2⟩,⟨CCf0,CCf1,CCf2⟩⟩:=blk3 CC.out
       go_wp2_with fail
       clear LBc0 LBc1 LBc2 LBc3 LBc4 LBc5 LBc6 LBf0 LBf1 LBf2 LBf3 LBf4 LBf5 LBf6 CCc0 CCc1 CCc2 CCf0 CCf1 CCf2
       refine (lquiet_any HQ.out false true seq mtok mat' mdg HQT).mono ?_
       rintro e w921 ⟨rfl,b921⟩
       replace G:=hZq (upQ G.out b921)
       replace LB:=hZq (upQ LB.out b921)
       replace CC:=hZq (upQ CC.out b921)
       replace HQ:=hZq (Chgs.later HQ.out b921)
       replace TT:=hZq (Tab.later TT.out b921)
       replace TV:=hZq (Tab.later TV.out b921)
       replace HB:=hZq (below2Z HB.out b921)
       clear b921
       go_wp2_with fail
       go_roundw
       case rel => exact⟨k+1,seq,mtok,mat',mdg,true,mql,mqa,ua,pva,mqc,uc,pvc,t,pvw,by omega,by go_num,rfl,HF2,HV2,G,LB,CC,HQ,TT,TV,HB⟩
       case measure => simp [intOf]; omega
      | false =>
       rw [hmsn] at LB HF2
       clear hmsn
       have hov:=HF2.out.ov rfl
       simp only at hov
       have HOV:=hZq hov
       clear hov
       obtain⟨qq,hqq⟩ : ∃ qq,lnQuiet ⟨seq,⟨mql,false⟩,⟨mtok,mat'⟩,false,mdg⟩=qq:=⟨_,rfl⟩
       have HQT:=hZq hqq
       obtain⟨⟨LBc0,LBc1,LBc2,LBc3,LBc4,LBc5,LBc6⟩,⟨LBf0,LBf1,LBf2,LBf3,LBf4,LBf5,LBf6⟩⟩:=blk7 LB.out
       obtain⟨⟨CCc0,CCc1,CCc2⟩,⟨CCf0,CCf1,CCf2⟩⟩:=blk3 CC.out
       go_wp2_with fail
       clear LBc0 LBc1 LBc2 LBc3 LBc4 LBc5 LBc6 LBf0 LBf1 LBf2 LBf3 LBf4 LBf5 LBf6 CCc0 CCc1 CCc2 CCf0 CCf1 CCf2
       refine (rquover_any TT.out (by omega) HQ.out (by omega) false).mono ?_
       rintro e w961 ⟨uo,rfl,huo,b961⟩
       replace G:=hZq (upQ G.out b961)
       replace LB:=hZq (upQ LB.out b961)
       replace CC:=hZq (upQ CC.out b961)
       replace HQ:=hZq (Chgs.later HQ.out b961)
       replace TT:=hZq (Tab.later TT.out b961)
       replace TV:=hZq (Tab.later TV.out b961)
       replace HB:=hZq (below2Z HB.out b961)
       rw [HOV.out] at huo
       obtain⟨oa,oc,rfl,-⟩:=huo.open'
       have TO:=hZq huo
       clear huo
       clear b961
       go_wp2_with fail
       refine (tsame_eq TO.out TV.out (hZq (tSame_iff.2 rfl))).mono ?_
       rintro e w962 ⟨rfl,b962⟩
       replace G:=hZq (upQ G.out b962)
       replace LB:=hZq (upQ LB.out b962)
       replace CC:=hZq (upQ CC.out b962)
       replace HQ:=hZq (Chgs.later HQ.out b962)
       replace TT:=hZq (Tab.later TT.out b962)
       replace TV:=hZq (Tab.later TV.out b962)
       replace TO:=hZq (Tab.later TO.out b962)
       replace HB:=hZq (below2Z HB.out b962)
       clear b962
       obtain⟨⟨LBc0,LBc1,LBc2,LBc3,LBc4,LBc5,LBc6⟩,⟨LBf0,LBf1,LBf2,LBf3,LBf4,LBf5,LBf6⟩⟩:=blk7 LB.out
       go_wp2_with fail
       clear LBc0 LBc1 LBc2 LBc3 LBc4 LBc5 LBc6 LBf0 LBf1 LBf2 LBf3 LBf4 LBf5 LBf6
       refine (lquiet_any HQ.out false false seq mtok mat' mdg HQT).mono ?_
       rintro e w963 ⟨rfl,b963⟩
       replace G:=hZq (upQ G.out b963)
       replace LB:=hZq (upQ LB.out b963)
       replace CC:=hZq (upQ CC.out b963)
       replace HQ:=hZq (Chgs.later HQ.out b963)
       replace TT:=hZq (Tab.later TT.out b963)
       replace TV:=hZq (Tab.later TV.out b963)
       replace TO:=hZq (Tab.later TO.out b963)
       replace HB:=hZq (below2Z HB.out b963)
       clear b963
       cases qq with
       | false =>
        go_wp2_with fail
        go_roundw
        case rel => exact⟨k+1,seq,mtok,mat',mdg,false,mql,mqa,ua,pva,mqc,uc,pvc,t,pvw,by omega,by go_num,rfl,HF2,HV2,G,LB,CC,HQ,TT,TV,HB⟩
        case measure => simp [intOf]; omega
       | true =>
        have heq:t=pvw:=by
         have h1:mql=[]:=by
          unfold lnQuiet quEmpty at hqq
          simp only [Bool.and_eq_true,decide_eq_true_eq,List.length_eq_zero_iff] at hqq
          exact hqq.2.1
         have h2:=HOV.out
         rw [h1] at h2
         exact h2
        have HSE:=hZq (tSame_iff.2 heq)
        clear heq hqq
        obtain⟨⟨CCc0,CCc1,CCc2⟩,⟨CCf0,CCf1,CCf2⟩⟩:=blk3 CC.out
        go_wp2_with fail
        clear CCc0 CCc1 CCc2 CCf0 CCf1 CCf2
        refine (tsame_eq TT.out TV.out HSE).mono ?_
        rintro e w964 ⟨rfl,b964⟩
        replace G:=hZq (upQ G.out b964)
        replace LB:=hZq (upQ LB.out b964)
        replace CC:=hZq (upQ CC.out b964)
        replace HQ:=hZq (Chgs.later HQ.out b964)
        replace TT:=hZq (Tab.later TT.out b964)
        replace TV:=hZq (Tab.later TV.out b964)
        replace TO:=hZq (Tab.later TO.out b964)
        replace HB:=hZq (below2Z HB.out b964)
        clear b964
        go_wp2_with fail
        go_roundw
        case rel => exact⟨k+1,seq,mtok,mat',mdg,false,mql,mqa,ua,pva,mqc,uc,pvc,t,pvw,by omega,by go_num,rfl,HF2,HV2,G,LB,CC,HQ,TT,TV,HB⟩
        case measure => simp [intOf]; omega

theorem walkClientFollows {w:World} {v:Value} {l:List Chg} (c:Cfg) (_:CfgFit c) (hv:Chgs w v l) :
  Calls Tryz.prog 5 #[.agg #[.int .i64 c.room,.int .i64 c.burst,.int .i64 c.rate,.int .i64 c.per],v] w fun e w' => e=.returned (.bool true)∧Below w.heap.size w w':=by
 obtain⟨ca,cb,cd,ce⟩:=c
 cases hp:pcMay ⟨ca,cb,cd,ce⟩ with
 | false => exact cfo_1 ca cb cd ce hv (hZq hp)
 | true =>
  cases hf:fewC l 40 with
  | false => exact cfo_2 ca cb cd ce hv (hZq hp) (hZq hf)
  | true => exact cfo_3 ca cb cd ce hv (hZq hp) (hZq hf)

end Go.Proofs.YtekkofldhhdpgaaGreat

end

section

namespace Go.Proofs.YtekkofldhhdpgaaGreat.clientFollows
open Go.ChangeShapes Go.WideShapes Go.ChangeAt Go.RowKit
open Go.ChangeMaps (open_string shut_string)
set_option linter.unusedVariables false

theorem own:ownKnob Tryz.prog.godebug=none:=by kernel_rfl
theorem laidOut:laidOutB Tryz.prog=true:=by kernel_rfl

theorem lifted (os:Os) (started:os.Started) (H:Type) (enc:TypeId × Value→H) :
  ReturnsInHanded {} Tryz.checked os 5 .any (Rows.clientFollowsSpec.pre6 enc Tryz.prog Tryz.f5 Rows.clientFollowsRow.domain false) (Rows.clientFollowsSpec.post enc Tryz.prog Tryz.f5 false true false false):=by
 refine returnsInHanded_of_change (C:=Tryz.checked) own started (by kernel_rfl) Tryz.func5
  (ChangeSpec.witness6 (enc:=enc) (C:=Tryz.checked) false ⟨#[],#[.agg #[.int .i64 0,.int .i64 0,.int .i64 0,.int .i64 0],.slice none 0 0],[]⟩ 8 (by kernel_rfl) (by kernel_rfl) (by kernel_rfl) (by kernel_rfl)) ?_
 intro W base args ds gs before hval0 hW hcnd _
 have hval:∀ (j:Nat) t v,Tryz.f5.params[j]?=some t→args[j]?=some v→Value.okWide Tryz.prog W .any base t v:=hval0
 have hW':=hW
 obtain⟨p,q,hA0,hV,rfl,hfz,hnd⟩:=hW
 have hA:DataW.TrodAll enc Tryz.prog W 0 (fun _ => true) true Tryz.f5.params.toList args.toList ds p:=hA0
 rw [Tryz.params5] at hA hval
 obtain⟨v0,vs0,d0,ds0,p0,q0,hargs,rfl,rfl,h0,r0⟩:=trodAll_cons hA
 obtain⟨v1,vs1,d1,ds1,p1,q1,rfl,rfl,rfl,h1,r1⟩:=trodAll_cons r0
 obtain⟨rfl,rfl,rfl⟩:=trodAll_nil r1
 obtain rfl:args=#[v0,v1]:=by cases args; simp_all
 obtain⟨rfl,rfl⟩:=trodVars_none hV
 have k0:=h0
 have lt0:∀ x ∈ p0,x.block < W.heap.size:=by obtain⟨m,hm⟩:=k0; exact DataW.trod_lt m _ _ _ hm
 obtain⟨a0,rfl,w0⟩:=open_cfg (hval 0 44 v0 rfl rfl) h0
 have k1:=h1
 have lt1:∀ x ∈ p1,x.block < W.heap.size:=by obtain⟨m,hm⟩:=k1; exact DataW.trod_lt m _ _ _ hm
 obtain⟨l1,w1⟩:=open_chgs (hval 1 45 v1 rfl rfl) h1
 clear hA0 hval0
 refine (walkClientFollows (w:=W) a0 w0 w1).mono fun e W' ⟨he,bel⟩ => ?_
 subst he
 exact⟨_,rfl,_,_,_,[],_,[],hW',trodAll_mk1 (shut_bool Tryz.underlying4 _),(trodAll_cons_mk (Below.trod laidOut (by kernel_rfl) (of_decide_eq_true (by kernel_rfl)) k0 bel lt0) (trodAll_cons_mk (Below.trod laidOut (by kernel_rfl) (of_decide_eq_true (by kernel_rfl)) k1 bel lt1) trodAll_mk0)),rfl,bel.frame _,fun h => by cases h⟩

theorem over:Rows.clientFollowsRow.holds Tryz.pinned (OpenSpec.ofChange Rows.clientFollowsSpec) :=
 OpenClaim.holds_of_wide 5 Tryz.f5 rfl rfl rfl rfl rfl rfl rfl ⟨rfl,rfl,rfl,rfl,rfl⟩ rfl rfl rfl rfl rfl (by kernel_rfl) Tryz.func5 (by kernel_rfl)
  (of_decide_eq_true (by kernel_rfl)) (by unfold Func.isWrapper; first | (rw [if_pos (by decide +kernel)]; kernel_rfl) | (rw [if_neg (by decide +kernel)]; exact⟨rfl,rfl⟩))
  (fun os started H enc _ => lifted os started H enc)

theorem proved:Rows.ClientFollowsSaid:=over
#print axioms proved
end Go.Proofs.YtekkofldhhdpgaaGreat.clientFollows

end
