/-
 THE PROOF OF LinkPushes: for every input the law returns true, and each argument reads behind the call as it read before. No condition.
-/
import Derived.Test.YtfocooajnignbaaW05
import Derived.Test.YtfocooajnignbaaW06
import Derived.Test.YtfocooajnignbaaW14
import Derived.Test.YtfocooajnignbaaW13
import Derived.Deep.CutRange
import Derived.Deep.Cut
import Derived.Test.YtfocooajnignbaaRows
import Derived.ProofKit
import Derived.OpenShut
import Derived.ShutString
import Derived.ChangeOld
import Derived.SliceStrings
import Derived.Lib.SmallJoins

set_option maxHeartbeats 12800000
set_option maxRecDepth 100000

section
namespace Go.Proofs.Ytfocooajnignbaa
set_option linter.unusedSimpArgs false
open Go.RowKit

theorem aggCfg:AggTy 23 4:=⟨⟨_,Try.underlying23,rfl⟩,by kernel_rfl⟩

theorem aggLink:AggTy 33 7:=⟨⟨_,Try.underlying33,rfl⟩,by kernel_rfl⟩

theorem aggChg:AggTy 42 6:=⟨⟨_,Try.underlying42,rfl⟩,by kernel_rfl⟩

theorem val_selfX (s:List UInt8) (a b d:Int) (w:World):(binOp .neq 40 (.agg #[.int .i64 a,.int .i64 b,.int .i64 d,.string ⟨s.toArray⟩]) (.agg #[.int .i64 a,.int .i64 b,.int .i64 d,.string ⟨s.toArray⟩])).run Try.prog w=.ok (.bool false) w:=by
 have:=val_neq5 a b d a b d s s w
 rw [vSame_self] at this
 exact this

theorem tabnilX (X:World):Tab X (.slice none 0 0) []:=OwnR.tab (ownR_nil X 0)

theorem chg_selfX (c s:List UInt8) (o:Bool) (a b d:Int) (w:World):(binOp .neq 42 (.agg #[.string ⟨c.toArray⟩,.bool o,.int .i64 a,.int .i64 b,.int .i64 d,.string ⟨s.toArray⟩]) (.agg #[.string ⟨c.toArray⟩,.bool o,.int .i64 a,.int .i64 b,.int .i64 d,.string ⟨s.toArray⟩])).run Try.prog w=.ok (.bool false) w:=by
 have:=chg_neq6 c c o o a b d a b d s s w
 rwa [cSame_self] at this

theorem lpu_a {w:World} {v:Value} {l:List Chg} (hv:Chgs w v l) (ca cb cd ce:Int) (F1:Hid (fewC l 60=false)) :
  Calls Try.prog 3 #[.agg #[.int .i64 ca,.int .i64 cb,.int .i64 cd,.int .i64 ce],v] w fun e w' => e=.returned (.bool true)∧Below w.heap.size w w':=by
 obtain⟨va,vc,rfl,hll⟩:=hv.open'
 have hmk:=fun w => run_makeMap (P:=Try.prog) 37 w
 obtain⟨GB,HB⟩:=ent1 w (.cells #[.int .i64 ca,.int .i64 cb,.int .i64 cd,.int .i64 ce] 23)
 have HV0:=hZq hv
 clear hv
 go_enter Try.func3,Try.ntmps3
 go_wp2_with fail
 refine (fewc_any (HV0.out.later HB.out) 60 F1).mono ?_
 rintro e w2 ⟨rfl,b2⟩
 replace GB:=hZq (upQ GB.out b2)
 replace HB:=hZq (below2Z HB.out b2)
 clear b2
 go_wp2_with fail
 refine (live18 _).mono ?_
 rintro e w3 ⟨rfl,b3⟩
 replace HB:=hZq (below2Z HB.out b3)
 clear b3
 go_wp2_with fail
 go_ret
 exact⟨rfl,HB.out⟩

theorem lpu_b {w:World} {v:Value} {l:List Chg} (hv:Chgs w v l) (ca cb cd ce:Int) (F1:Hid (fewC l 60=true)) (F2:Hid (pcMay ⟨ca,cb,cd,ce⟩=false)) :
  Calls Try.prog 3 #[.agg #[.int .i64 ca,.int .i64 cb,.int .i64 cd,.int .i64 ce],v] w fun e w' => e=.returned (.bool true)∧Below w.heap.size w w':=by
 obtain⟨va,vc,rfl,hll⟩:=hv.open'
 have hmk:=fun w => run_makeMap (P:=Try.prog) 37 w
 obtain⟨GB,HB⟩:=ent1 w (.cells #[.int .i64 ca,.int .i64 cb,.int .i64 cd,.int .i64 ce] 23)
 have HV0:=hZq hv
 clear hv
 go_enter Try.func3,Try.ntmps3
 go_wp2_with fail
 refine (fewc_any (HV0.out.later HB.out) 60 F1).mono ?_
 rintro e w2 ⟨rfl,b2⟩
 replace GB:=hZq (upQ GB.out b2)
 replace HB:=hZq (below2Z HB.out b2)
 clear b2
 go_wp2_with (with_reducible refine ldG aggCfg _ rfl rfl (w.heap.size) 0 rfl GB.out [.int .i64 ca,.int .i64 cb,.int .i64 cd,.int .i64 ce] rfl rfl ?_)
 refine (rpmay_any ca cb cd ce F2 _).mono ?_
 rintro e w3 ⟨rfl,b3⟩
 replace GB:=hZq (upQ GB.out b3)
 replace HB:=hZq (below2Z HB.out b3)
 clear b3
 go_wp2_with fail
 refine (live18 _).mono ?_
 rintro e w4 ⟨rfl,b4⟩
 replace HB:=hZq (below2Z HB.out b4)
 clear b4
 go_wp2_with fail
 go_ret
 exact⟨rfl,HB.out⟩

theorem lpu_c {w:World} {v:Value} {l:List Chg} (hv:Chgs w v l) (ca cb cd ce:Int) (F1:Hid (fewC l 60=true)) (F2:Hid (pcMay ⟨ca,cb,cd,ce⟩=true)) :
  Calls Try.prog 3 #[.agg #[.int .i64 ca,.int .i64 cb,.int .i64 cd,.int .i64 ce],v] w fun e w' => e=.returned (.bool true)∧Below w.heap.size w w':=by
 have HS:=hZq (fewC_get F1.out).2
 have hl60:=(fewC_get F1.out).1
 have HNW:=hZq (new_first F2.out).1
 have HM0:=hZq (new_first F2.out).2
 have hca:ca≤16:=(pcMay_iff.1 F2.out).2.1
 obtain⟨va,vc,rfl,hll⟩:=hv.open'
 have hmk:=fun w => run_makeMap (P:=Try.prog) 37 w
 obtain⟨GB,HB⟩:=ent1 w (.cells #[.int .i64 ca,.int .i64 cb,.int .i64 cd,.int .i64 ce] 23)
 have HV0:=hZq hv
 clear hv
 go_enter Try.func3,Try.ntmps3
 go_wp2_with fail
 refine (fewc_any (HV0.out.later HB.out) 60 F1).mono ?_
 rintro e w2 ⟨rfl,b2⟩
 replace GB:=hZq (upQ GB.out b2)
 replace HB:=hZq (below2Z HB.out b2)
 clear b2
 go_wp2_with (with_reducible refine ldG aggCfg _ rfl rfl (w.heap.size) 0 rfl GB.out [.int .i64 ca,.int .i64 cb,.int .i64 cd,.int .i64 ce] rfl rfl ?_)
 refine (rpmay_any ca cb cd ce F2 _).mono ?_
 rintro e w3 ⟨rfl,b3⟩
 replace GB:=hZq (upQ GB.out b3)
 replace HB:=hZq (below2Z HB.out b3)
 clear b3
 go_wp2_with (with_reducible refine ldA aggCfg _ rfl rfl (w.heap.size) 0 rfl GB.out [.int .i64 ca,.int .i64 cb,.int .i64 cd,.int .i64 ce] rfl rfl ?_)
 refine (lnew_eq ca cb cd ce 0 HNW _).mono ?_
 rintro e w4 ⟨rfl,b4⟩
 replace GB:=hZq (upQ GB.out b4)
 replace HB:=hZq (below2Z HB.out b4)
 clear b4
 have hsGB:=(Array.getElem?_eq_some_iff.1 GB.out).1
 have b5:=bl_newZ w4 (.cells #[.int .i64 0,.slice none 0 0,.bool false,.int .i64 0,.int .i64 0,.bool false,.int .i64 0] 33)
 have LB:=newQ w4 (.cells #[.int .i64 0,.slice none 0 0,.bool false,.int .i64 0,.int .i64 0,.bool false,.int .i64 0] 33)
 have hLB:w.heap.size≤w4.heap.size:=HB.out.size
 replace GB:=hZq (upQ GB.out b5)
 replace HB:=hZq (below2Z HB.out b5)
 clear b5
 replace LB:=hZq LB
 go_wp2_with (with_reducible refine stA aggLink _ _ rfl rfl (w4.heap.size) 0 rfl LB.out [.int .i64 0,.slice none 0 0,.bool false,.int .i64 cb,.int .i64 0,.bool true,.int .i64 0] rfl rfl (Nat.le_of_ble_eq_true rfl) rfl [.int .i64 0,.slice none 0 0,.bool false,.int .i64 cb,.int .i64 0,.bool true,.int .i64 0] rfl ?_)
 intro w6 hst
 have HBz:=hZq (hst.bel HB.out (show w.heap.size≤w4.heap.size by omega))
 have GBz:=hZq (hst.keep GB.out (show ¬ w.heap.size=w4.heap.size by omega))
 have LBz:=hZq hst.at'
 clear hst HB GB LB
 have HB:=HBz
 have GB:=GBz
 have LB:=LBz
 clear HBz GBz LBz
 generalize w4.heap.size=BLB at LB hLB hsGB ⊢
 have dLBGB:¬ w.heap.size=BLB:=by omega
 have eLBGB:¬ BLB=w.heap.size:=by omega
 clear hsGB
 clear F1 F2
 go_upto_region 7 with fail
 have b7:=bl_newZ w6 (.map #[] 0)
 have hmb:w.heap.size≤w6.heap.size:=HB.out.size
 replace GB:=hZq (upQ GB.out b7)
 replace LB:=hZq (upQ LB.out b7)
 replace HB:=hZq (below2Z HB.out b7)
 have HCA:=hZq (chgsAt_made w6 0)
 clear b7
 generalize w6.alloc (.map #[] 0)=w8 at GB LB HB HCA ⊢
 generalize w6.heap.size=mb at HCA hmb ⊢
 go_wp2_with fail
 go_loopw [7,8] (fun p i wr => ∃ (k:Nat) (seq tok at' dg:Int) (ql:List Chg) (sn:Bool) (qa:Option Addr) (qc mb:Nat),k≤l.length∧i=.int .i64 k∧p=.map (some mb)∧w.heap.size≤mb∧Hid (lnMay ⟨ca,cb,cd,ce⟩ ⟨seq,⟨ql,false⟩,⟨tok,at'⟩,sn,dg⟩=true)∧Hid (wr.heap[BLB]?=some (.cells #[.int .i64 seq,.slice qa ql.length qc,.bool false,.int .i64 tok,.int .i64 at',.bool sn,.int .i64 dg] 33 (0,0)))∧Hid (wr.heap[w.heap.size]?=some (.cells #[.int .i64 ca,.int .i64 cb,.int .i64 cd,.int .i64 ce] 23 (0,0)))∧Hid (Chgs wr (.slice qa ql.length qc) ql)∧Hid (ChgsAt wr mb k ql)∧Hid (Below w.heap.size w wr)) (fun _ i _ => l.length - (intOf i).toNat)
 case atStart => exact⟨0,0,cb,0,0,[],true,none,0,mb,by omega,rfl,rfl,hmb,HM0,LB,GB,hZq (chgs_nilL _),HCA,HB⟩
 case round =>
  clear HCA LB GB HB hmb HM0
  obtain⟨k,seq,tok,at',dg,ql,sn,qa,qc,mb,hk,rfl,rfl,hmb,HMY,LB,GB,HQ,HCA,HB⟩:=hrel
  by_cases hlt:k < l.length
  ·have hd:decide ((k:Int) < (l.length:Int))=true:=by rw [decide_eq_true_eq]; omega
   have hwk:IntKind.i64.wrap ((k:Int)+1)=(k:Int)+1:=IntWalk.i64_in _ (by omega)
   obtain⟨g,off,rfl,hc0⟩:=HV0.out.rdS.row (Below.refl _ _) k hlt
   have hgw:g < w.heap.size:=World.block_lt_of_cell? w _ (hc0 0 _ rfl)
   obtain⟨x,hx⟩ : ∃ x,l.getD k Chg.zero=x:=⟨_,rfl⟩
   have hxs:x.c.length≤60∧x.v.st.length≤100:=by
    rw [← hx]
    refine HS.out _ ?_
    rw [List.getD_eq_getElem?_getD,List.getElem?_eq_getElem hlt]
    exact List.getElem_mem hlt
   rw [hx] at hc0
   clear hx
   obtain⟨xc,xo,⟨xa,xb,xd,xs⟩⟩:=x
   simp only at hxs
   obtain⟨hx1,hx2⟩:=hxs
   have HROW:Hid (∀ X,Below w.heap.size w X→CellsAt X g (off+k * 6) [.string ⟨xc.toArray⟩,.bool xo,.int .i64 xa,.int .i64 xb,.int .i64 xd,.string ⟨xs.toArray⟩]):=hZq (fun X hX => CellsAt.later (show CellsAt w g (off+k * 6) [.string ⟨xc.toArray⟩,.bool xo,.int .i64 xa,.int .i64 xb,.int .i64 xd,.string ⟨xs.toArray⟩] from hc0) hX)
   clear hc0
   have HSL:=hZq (lnMay_short HMY.out)
   have hql16:=HSL.out.2.1
   simp only at hql16
   obtain⟨r,hr⟩ : ∃ r,quOne ⟨xc,xo,⟨xa,xb,xd,xs⟩⟩=r:=⟨_,rfl⟩
   have HR:=hZq hr
   go_wp2_with (with_reducible refine ldR aggChg _ rfl rfl (g) (off+k * 6) rfl [.string ⟨xc.toArray⟩,.bool xo,.int .i64 xa,.int .i64 xb,.int .i64 xd,.string ⟨xs.toArray⟩] (HROW.out _ HB.out) rfl ?_)
   refine (rquone_any xc xs xo xa xb xd (by omega) (by omega) HR _).mono ?_
   rintro e w151 ⟨rfl,b151⟩
   replace GB:=hZq (upQ GB.out b151)
   replace LB:=hZq (upQ LB.out b151)
   replace HQ:=hZq (Chgs.later HQ.out b151)
   replace HCA:=hZq (ChgsAt.later HCA.out b151)
   replace HB:=hZq (below2Z HB.out b151)
   clear b151
   go_upto_if 44 with fail
   go_cut [7] from 33 to 187 (fun p wx => ∃ (seq tok at' dg:Int) (ql:List Chg) (sn:Bool) (qa:Option Addr) (qc mb:Nat),p=.map (some mb)∧w.heap.size≤mb∧Hid (lnMay ⟨ca,cb,cd,ce⟩ ⟨seq,⟨ql,false⟩,⟨tok,at'⟩,sn,dg⟩=true)∧Hid (wx.heap[BLB]?=some (.cells #[.int .i64 seq,.slice qa ql.length qc,.bool false,.int .i64 tok,.int .i64 at',.bool sn,.int .i64 dg] 33 (0,0)))∧Hid (wx.heap[w.heap.size]?=some (.cells #[.int .i64 ca,.int .i64 cb,.int .i64 cd,.int .i64 ce] 23 (0,0)))∧Hid (Chgs wx (.slice qa ql.length qc) ql)∧Hid (ChgsAt wx mb (k+1) ql)∧Hid (Below w.heap.size w wx))
   case first =>
    cases r with
    | true =>
     obtain⟨⟨mseq,⟨mql,mla⟩,⟨mtok,mat'⟩,msn,mdg⟩,hP⟩ : ∃ M,lnPush ⟨ca,cb,cd,ce⟩ ⟨seq,⟨ql,false⟩,⟨tok,at'⟩,sn,dg⟩ ⟨xc,xo,⟨xa,xb,xd,xs⟩⟩=M:=⟨_,rfl⟩
     have hpm:=push_may HMY.out hr
     rw [hP] at hpm
     have hmla:=(lnMay_iff.1 hpm).2.2.2.2.1
     simp only at hmla
     subst hmla
     have HMM:=hZq hpm
     have HP:=hZq hP
     have HWAY:Hid ((sn=true∧msn=true∧mql=[])∨(sn=false∧msn=true∧mql=[])∨(sn=false∧msn=false∧(quPush ⟨ql,false⟩ ⟨xc,xo,⟨xa,xb,xd,xs⟩⟩ ca).la=false∧mql=(quPush ⟨ql,false⟩ ⟨xc,xo,⟨xa,xb,xd,xs⟩⟩ ca).l)):=hZq (by
      unfold lnPush at hP
      cases hsn:sn with
      | true =>
       rw [hsn] at hP
       rw [if_pos rfl] at hP
       have h0:=(lnMay_iff.1 HMY.out).2.2.2.2.2.2 hsn
       simp only at h0
       obtain⟨-,h2,-,h3,-⟩:=Lnk.mk.inj hP
       obtain⟨h4,-⟩:=Que.mk.inj h2
       exact .inl ⟨rfl,h3.symm,by rw [← h4]; exact h0⟩
      | false =>
       rw [hsn] at hP
       rw [if_neg (by simp)] at hP
       simp only at hP
       split at hP
       ·obtain⟨-,h2,-,h3,-⟩:=Lnk.mk.inj (show lnAsk _=_ from hP)
        obtain⟨h4,-⟩:=Que.mk.inj h2
        exact .inr (.inl ⟨rfl,h3.symm,h4.symm⟩)
       ·rename_i hla
        obtain⟨-,h2,-,h3,-⟩:=Lnk.mk.inj hP
        refine .inr (.inr ⟨rfl,h3.symm,by simpa using hla,?_⟩)
        rw [h2])
     clear hpm hP hr HR
     have LBk5:=ckZ LB.out 5 _ rfl
     go_upto_region 25 with fail
     clear LBk5
     have HRX:=HROW.out _ HB.out
     have q0:w151.cell? ⟨g,off+k * 6,none⟩=some (.string ⟨xc.toArray⟩):=HRX 0 _ rfl
     have q1:w151.cell? ⟨g,off+k * 6+1,none⟩=some (.bool xo):=HRX 1 _ rfl
     have q2:w151.cell? ⟨g,off+k * 6+2,none⟩=some (.int .i64 xa):=HRX 2 _ rfl
     have q3:w151.cell? ⟨g,off+k * 6+3,none⟩=some (.int .i64 xb):=HRX 3 _ rfl
     have q4:w151.cell? ⟨g,off+k * 6+4,none⟩=some (.int .i64 xd):=HRX 4 _ rfl
     have q5:w151.cell? ⟨g,off+k * 6+5,none⟩=some (.string ⟨xs.toArray⟩):=HRX 5 _ rfl
     have p0:w151.cell? ⟨w.heap.size,0,none⟩=some (.int .i64 ca):=ckZ GB.out 0 _ rfl
     have p1:w151.cell? ⟨w.heap.size,1,none⟩=some (.int .i64 cb):=ckZ GB.out 1 _ rfl
     have p2:w151.cell? ⟨w.heap.size,2,none⟩=some (.int .i64 cd):=ckZ GB.out 2 _ rfl
     have p3:w151.cell? ⟨w.heap.size,3,none⟩=some (.int .i64 ce):=ckZ GB.out 3 _ rfl
     obtain⟨BS,hBS⟩ : ∃ BS:List (Nat × List Value),BS=[]:=⟨_,rfl⟩
     obtain⟨CS,hCS⟩ : ∃ CS:List (Nat × Nat × Value),CS=[(g,off+k * 6,.string ⟨xc.toArray⟩),(g,off+k * 6+1,.bool xo),(g,off+k * 6+2,.int .i64 xa),(g,off+k * 6+3,.int .i64 xb),(g,off+k * 6+4,.int .i64 xd),(g,off+k * 6+5,.string ⟨xs.toArray⟩),(w.heap.size,0,.int .i64 ca),(w.heap.size,1,.int .i64 cb),(w.heap.size,2,.int .i64 cd),(w.heap.size,3,.int .i64 ce)]:=⟨_,rfl⟩
     have D0:=hZq (show heldC w151 CS from by rw [hCS]; exact heldC_cons (q0) (heldC_cons (q1) (heldC_cons (q2) (heldC_cons (q3) (heldC_cons (q4) (heldC_cons (q5) (heldC_cons (p0) (heldC_cons (p1) (heldC_cons (p2) (heldC_cons (p3) (heldC_nil _)))))))))))
     have hq0:∀ X,heldC X CS→X.cell? ⟨g,off+k * 6,none⟩=some (.string ⟨xc.toArray⟩):=fun X hx => heldC_get hx (by rw [hCS]; simp)
     have hq1:∀ X,heldC X CS→X.cell? ⟨g,off+k * 6+1,none⟩=some (.bool xo):=fun X hx => heldC_get hx (by rw [hCS]; simp)
     have hq2:∀ X,heldC X CS→X.cell? ⟨g,off+k * 6+2,none⟩=some (.int .i64 xa):=fun X hx => heldC_get hx (by rw [hCS]; simp)
     have hq3:∀ X,heldC X CS→X.cell? ⟨g,off+k * 6+3,none⟩=some (.int .i64 xb):=fun X hx => heldC_get hx (by rw [hCS]; simp)
     have hq4:∀ X,heldC X CS→X.cell? ⟨g,off+k * 6+4,none⟩=some (.int .i64 xd):=fun X hx => heldC_get hx (by rw [hCS]; simp)
     have hq5:∀ X,heldC X CS→X.cell? ⟨g,off+k * 6+5,none⟩=some (.string ⟨xs.toArray⟩):=fun X hx => heldC_get hx (by rw [hCS]; simp)
     have hq6:∀ X,heldC X CS→X.cell? ⟨w.heap.size,0,none⟩=some (.int .i64 ca):=fun X hx => heldC_get hx (by rw [hCS]; simp)
     have hq7:∀ X,heldC X CS→X.cell? ⟨w.heap.size,1,none⟩=some (.int .i64 cb):=fun X hx => heldC_get hx (by rw [hCS]; simp)
     have hq8:∀ X,heldC X CS→X.cell? ⟨w.heap.size,2,none⟩=some (.int .i64 cd):=fun X hx => heldC_get hx (by rw [hCS]; simp)
     have hq9:∀ X,heldC X CS→X.cell? ⟨w.heap.size,3,none⟩=some (.int .i64 ce):=fun X hx => heldC_get hx (by rw [hCS]; simp)
     have hCN:Hid (∀ p ∈ CS,¬ p.1=BLB):=hZq (by rw [hCS]; intro p hp; simp only [List.mem_cons,List.not_mem_nil,or_false] at hp; rcases hp with rfl | rfl | rfl | rfl | rfl | rfl | rfl | rfl | rfl | rfl <;> (simp only; omega))
     clear hCS
     clear HRX q0 q1 q2 q3 q4 q5 p0 p1 p2 p3
     clear hBS
     have K0:Hid (Below w151.heap.size w151 w151.drew):=hZq (Below.refl _ _).drew
     refine wp_region_held_drew (S:=(fun X => heldC X CS)) (by kernel_rfl) ?_ (fun hHeld => ?_)
     ·exact heldC_up K0.out D0.out
     generalize w151.drew=z0 at K0 hHeld ⊢
     refine tkZ 0 ?_
     refine tkZ 2 ?_
     refine tkZ 3 ?_
     refine tkZ 4 ?_
     refine tkZ 5 ?_
     obtain⟨⟨q0,q1,q2,q3,q4,q5,q6⟩,-⟩:=blk7 (upQ LB.out (K0.out))
     refine wpAnyH_ready (rs:=[1]) (by as_aux_lemma => kernel_rfl) (by simp) ?_
     refine AllReadyH.cons rfl (fun Kx hK => ?_) AllReadyH.nil
     go_simp
     refine hK.out _ _ ?_ (fun hHeld2 => ?_)
     ·exact heldC_up (K0.out) D0.out
     clear hK Kx hHeld q0 q1 q2 q3 q4 q5 q6
     have hHeld:=hHeld2
     clear hHeld2
     try simp only [Act.put,List.setIfInBounds_toArray,List.set_cons_zero,List.set_cons_succ]
     refine wpAnyH_ready (rs:=[6]) (by as_aux_lemma => kernel_rfl) (by simp) ?_
     refine AllReadyH.cons rfl (fun Kx hK => ?_) AllReadyH.nil
     go_simp
     refine (lpush_eq (HQ.out.later (K0.out)) (by omega) false sn ca cb cd ce seq tok at' dg xa xb xd xo xc xs HP).mono ?_
     rintro e z25002 ⟨u,rfl,hU,bz25002⟩
     have K25002:=hZq (below2Z K0.out bz25002)
     have D25002:=hZq (heldC_up K25002.out D0.out)
     obtain⟨mqa,mqc,rfl,-⟩:=hU.open'
     have QN:=hZq hU
     clear hU
     clear bz25002
     go_wp2_with fail
     refine hK.out _ _ ?_ (fun hHeld2 => ?_)
     ·exact D25002.out
     clear hK Kx hHeld
     have hHeld:=hHeld2
     clear hHeld2
     try simp only [Act.put,List.setIfInBounds_toArray,List.set_cons_zero,List.set_cons_succ]
     obtain⟨⟨r0,r1,r2,r3,r4,r5,r6⟩,⟨f0,f1,f2,f3,f4,f5,f6⟩⟩:=blk7 (upQ LB.out (K25002.out))
     refine wpAnyH_ready (rs:=[7]) (by as_aux_lemma => kernel_rfl) (by simp) ?_
     refine AllReadyH.cons rfl (fun Kx hK => ?_) AllReadyH.nil
     go_simp
     clear r0 r1 r2 r3 r4 r5 r6 f0 f1 f2 f3 f4 f5 f6
     have LBz:=hZq (stN7_heap (upQ LB.out (K25002.out)) (.int .i64 mseq) (.slice mqa mql.length mqc) (.bool false) (.int .i64 mtok) (.int .i64 mat') (.bool msn) (.int .i64 mdg))
     have GBz:=hZq (((fun k hk => stN7_far z25002 BLB (.int .i64 mseq) (.slice mqa mql.length mqc) (.bool false) (.int .i64 mtok) (.int .i64 mat') (.bool msn) (.int .i64 mdg) hk) (w.heap.size) dLBGB).trans (upQ GB.out (K25002.out)))
     have HQz:=hZq (QN.out.nostr (noTx_str (l:=[.int .i64 seq,.slice qa ql.length qc,.bool false,.int .i64 tok,.int .i64 at',.bool sn,.int .i64 dg]) (upQ LB.out (K25002.out)) rfl) (fun k hk => stN7_far z25002 BLB (.int .i64 mseq) (.slice mqa mql.length mqc) (.bool false) (.int .i64 mtok) (.int .i64 mat') (.bool msn) (.int .i64 mdg) hk) (stN7_size z25002 BLB (.int .i64 mseq) (.slice mqa mql.length mqc) (.bool false) (.int .i64 mtok) (.int .i64 mat') (.bool msn) (.int .i64 mdg)))
     have HCAz:=hZq ((HCA.out.later (K25002.out)).kept ((fun k hk => stN7_far z25002 BLB (.int .i64 mseq) (.slice mqa mql.length mqc) (.bool false) (.int .i64 mtok) (.int .i64 mat') (.bool msn) (.int .i64 mdg) hk) mb (fun e => (HCA.out.later (K25002.out)).ne (upQ LB.out (K25002.out)) e.symm)))
     have HBz:=hZq (stN7_below (below2Z HB.out (K25002.out)) hLB (.int .i64 mseq) (.slice mqa mql.length mqc) (.bool false) (.int .i64 mtok) (.int .i64 mat') (.bool msn) (.int .i64 mdg))
     have HLD:=hZq (heldC_farM (heldC_up (K25002.out) D0.out) (fun k hk => stN7_far z25002 BLB (.int .i64 mseq) (.slice mqa mql.length mqc) (.bool false) (.int .i64 mtok) (.int .i64 mat') (.bool msn) (.int .i64 mdg) hk) hCN.out)
     refine hK.out _ _ ?_ (fun hHeld2 => ?_)
     ·exact HLD.out
     clear hK Kx hHeld HLD LB GB HQ HCA HB QN
     have hHeld:=hHeld2
     clear hHeld2
     obtain⟨zs,hzs⟩ : ∃ X,X=stN7 z25002 BLB (.int .i64 mseq) (.slice mqa mql.length mqc) (.bool false) (.int .i64 mtok) (.int .i64 mat') (.bool msn) (.int .i64 mdg):=⟨_,rfl⟩
     rw [← hzs] at LBz GBz HQz HCAz HBz
     unfold stN7 at hzs
     simp only [← hzs] at hHeld ⊢
     clear hzs
     refine wpAnyH_done (by kernel_rfl) ?_ _
     clear hHeld
     have LB:=LBz
     have GB:=GBz
     have HQ:=HQz
     have HCA:=HCAz
     have HB:=HBz
     clear LBz GBz HQz HCAz HBz HP HMY
     rcases HWAY.out with ⟨h1,h2,h3⟩ | ⟨h1,h2,h3⟩ | ⟨h1,h2,hpl,h3⟩
     ·subst h1 h2 h3
      clear HCA HWAY
      have LBk5:=ckZ LB.out 5 _ rfl
      go_wp2_with fail
      have b402:=bl_newZ zs (.map #[] 0)
      have hmb2:w.heap.size≤zs.heap.size:=HB.out.size
      replace GB:=hZq (upQ GB.out b402)
      replace LB:=hZq (upQ LB.out b402)
      replace HQ:=hZq (Chgs.later HQ.out b402)
      replace HB:=hZq (below2Z HB.out b402)
      have HC2:=hZq (chgsAt_made zs (k+1))
      clear b402
      generalize zs.alloc (.map #[] 0)=w403 at GB LB HQ HB HC2 ⊢
      generalize zs.heap.size=mb2 at HC2 hmb2 ⊢
      clear LBk5
      go_meet
      exact⟨mseq,mtok,mat',mdg,[],true,mqa,mqc,mb2,rfl,hmb2,HMM,LB,GB,HQ,HC2,HB⟩
     ·subst h1 h2 h3
      clear HCA HWAY
      have LBk5:=ckZ LB.out 5 _ rfl
      go_wp2_with fail
      have b402:=bl_newZ zs (.map #[] 0)
      have hmb2:w.heap.size≤zs.heap.size:=HB.out.size
      replace GB:=hZq (upQ GB.out b402)
      replace LB:=hZq (upQ LB.out b402)
      replace HQ:=hZq (Chgs.later HQ.out b402)
      replace HB:=hZq (below2Z HB.out b402)
      have HC2:=hZq (chgsAt_made zs (k+1))
      clear b402
      generalize zs.alloc (.map #[] 0)=w403 at GB LB HQ HB HC2 ⊢
      generalize zs.heap.size=mb2 at HC2 hmb2 ⊢
      clear LBk5
      go_meet
      exact⟨mseq,mtok,mat',mdg,[],true,mqa,mqc,mb2,rfl,hmb2,HMM,LB,GB,HQ,HC2,HB⟩
     ·subst h1 h2
      clear HWAY
      have LBk5:=ckZ LB.out 5 _ rfl
      go_upto_region 30 with fail
      clear LBk5
      have HRX:=HROW.out _ HB.out
      have q0:zs.cell? ⟨g,off+k * 6,none⟩=some (.string ⟨xc.toArray⟩):=HRX 0 _ rfl
      have q1:zs.cell? ⟨g,off+k * 6+1,none⟩=some (.bool xo):=HRX 1 _ rfl
      have q2:zs.cell? ⟨g,off+k * 6+2,none⟩=some (.int .i64 xa):=HRX 2 _ rfl
      have q3:zs.cell? ⟨g,off+k * 6+3,none⟩=some (.int .i64 xb):=HRX 3 _ rfl
      have q4:zs.cell? ⟨g,off+k * 6+4,none⟩=some (.int .i64 xd):=HRX 4 _ rfl
      have q5:zs.cell? ⟨g,off+k * 6+5,none⟩=some (.string ⟨xs.toArray⟩):=HRX 5 _ rfl
      obtain⟨BS,hBS⟩ : ∃ BS:List (Nat × List Value),BS=[]:=⟨_,rfl⟩
      obtain⟨CS,hCS⟩ : ∃ CS:List (Nat × Nat × Value),CS=[(g,off+k * 6,.string ⟨xc.toArray⟩),(g,off+k * 6+1,.bool xo),(g,off+k * 6+2,.int .i64 xa),(g,off+k * 6+3,.int .i64 xb),(g,off+k * 6+4,.int .i64 xd),(g,off+k * 6+5,.string ⟨xs.toArray⟩)]:=⟨_,rfl⟩
      have D0:=hZq (show heldC zs CS from by rw [hCS]; exact heldC_cons (q0) (heldC_cons (q1) (heldC_cons (q2) (heldC_cons (q3) (heldC_cons (q4) (heldC_cons (q5) (heldC_nil _)))))))
      have hq0:∀ X,heldC X CS→X.cell? ⟨g,off+k * 6,none⟩=some (.string ⟨xc.toArray⟩):=fun X hx => heldC_get hx (by rw [hCS]; simp)
      have hq1:∀ X,heldC X CS→X.cell? ⟨g,off+k * 6+1,none⟩=some (.bool xo):=fun X hx => heldC_get hx (by rw [hCS]; simp)
      have hq2:∀ X,heldC X CS→X.cell? ⟨g,off+k * 6+2,none⟩=some (.int .i64 xa):=fun X hx => heldC_get hx (by rw [hCS]; simp)
      have hq3:∀ X,heldC X CS→X.cell? ⟨g,off+k * 6+3,none⟩=some (.int .i64 xb):=fun X hx => heldC_get hx (by rw [hCS]; simp)
      have hq4:∀ X,heldC X CS→X.cell? ⟨g,off+k * 6+4,none⟩=some (.int .i64 xd):=fun X hx => heldC_get hx (by rw [hCS]; simp)
      have hq5:∀ X,heldC X CS→X.cell? ⟨g,off+k * 6+5,none⟩=some (.string ⟨xs.toArray⟩):=fun X hx => heldC_get hx (by rw [hCS]; simp)
      have hCN:Hid (∀ p ∈ CS,¬ p.1=mb):=hZq (by rw [hCS]; intro p hp; simp only [List.mem_cons,List.not_mem_nil,or_false] at hp; rcases hp with rfl | rfl | rfl | rfl | rfl | rfl <;> (simp only; omega))
      clear hCS
      clear HRX q0 q1 q2 q3 q4 q5
      clear hBS
      have K0:Hid (Below zs.heap.size zs zs.drew):=hZq (Below.refl _ _).drew
      refine wp_region_held_drew (S:=(fun X => heldC X CS)) (by kernel_rfl) ?_ (fun hHeld => ?_)
      ·exact heldC_up K0.out D0.out
      generalize zs.drew=z0 at K0 hHeld ⊢
      refine tkZ 0 ?_
      refine tkZ 1 ?_
      refine tkZ 2 ?_
      refine tkZ 3 ?_
      refine tkZ 4 ?_
      refine tkZ 5 ?_
      refine tkZ 6 ?_
      refine tkZ 7 ?_
      refine tkZ 8 ?_
      refine tkZ 9 ?_
      refine wpAnyH_ready (rs:=[10]) (by as_aux_lemma => kernel_rfl) (by simp) ?_
      refine AllReadyH.cons rfl (fun Kx hK => ?_) AllReadyH.nil
      rw [if_pos (by rfl)]
      refine wp_chg_putX (.tmp 125) (.tmp 130) (.tmp 134) rfl mb k ql rfl (HCA.out.later K0.out) (by omega) ⟨xc,xo,⟨xa,xb,xd,xs⟩⟩ (by simp only; omega) rfl rfl hpl ?_
      intro z1 hca ht
      have LBz:=hZq (ht.keep (HCA.out.later K0.out) (upQ LB.out K0.out))
      have GBz:=hZq (ht.keep (HCA.out.later K0.out) (upQ GB.out K0.out))
      have HQz:=hZq (ht.chgs (HCA.out.later K0.out) (HQ.out.later K0.out))
      have HBz:=hZq (ht.bel (below2Z HB.out K0.out) hmb)
      have HLD:=hZq (heldC_farM (heldC_up K0.out D0.out) ht.far hCN.out)
      rw [← h3] at hca
      have HC2:=hZq hca
      clear hca ht
      refine hK.out _ _ ?_ (fun hHeld2 => ?_)
      ·exact HLD.out
      clear hK Kx hHeld HLD
      try simp only [Act.put,List.setIfInBounds_toArray,List.set_cons_zero,List.set_cons_succ]
      refine wpAnyH_done (by kernel_rfl) ?_ _
      go_wp2_with fail
      go_meet
      exact⟨mseq,mtok,mat',mdg,mql,false,mqa,mqc,mb,rfl,hmb,HMM,LBz,GBz,HQz,HC2,HBz⟩
    | false =>
     obtain⟨⟨mseq,⟨mql,mla⟩,⟨mtok,mat'⟩,msn,mdg⟩,fs,hE⟩ : ∃ M fs,lnEmit ⟨ca,cb,cd,ce⟩ ⟨seq,⟨ql,false⟩,⟨tok,at'⟩,sn,dg⟩ [] (k:Int)=(M,fs):=⟨_,_,rfl⟩
     have hpt:pcTime (k:Int)=true:=pcTime_iff.2 ⟨by omega,by omega⟩
     have hdm:diMay []=true:=by decide
     have hew:=emit_waits HMY.out hdm hpt hE
     have hrm:=run_may hdm hpt 65 ⟨seq,⟨ql,false⟩,⟨tok,at'⟩,sn,dg⟩ HMY.out
     have hE2:=hE
     rw [emit_run HMY.out hdm hpt] at hE2
     rw [hE2] at hrm
     simp only at hrm hew
     have hmla:=(lnMay_iff.1 hrm.1).2.2.2.2.1
     simp only at hmla
     subst hmla
     have HMM:=hZq hrm.1
     have HEW:=hZq hew
     have HRM:=hZq hrm.2.2.2
     have HE:=hZq hE
     clear hE hE2 hrm hew hr HR
     go_wp2_with (first | (with_reducible refine ldA aggCfg _ rfl rfl (w.heap.size) 0 rfl GB.out [.int .i64 ca,.int .i64 cb,.int .i64 cd,.int .i64 ce] rfl rfl ?_) | (with_reducible refine ldA aggLink _ rfl rfl (BLB) 0 rfl LB.out [.int .i64 seq,.slice qa ql.length qc,.bool false,.int .i64 tok,.int .i64 at',.bool sn,.int .i64 dg] rfl rfl ?_))
     refine (lemit_eq HQ.out (tabnilX _) HSL.out.1 (by omega) (fun r hr => by cases hr) ca cb cd ce seq tok at' dg k false sn HE).mono ?_
     rintro e w252 ⟨uM,fv,ps,rfl,hM,kM,mM,b252⟩
     replace GB:=hZq (upQ GB.out b252)
     replace LB:=hZq (upQ LB.out b252)
     replace HQ:=hZq (Chgs.later HQ.out b252)
     replace HCA:=hZq (ChgsAt.later HCA.out b252)
     replace HB:=hZq (below2Z HB.out b252)
     obtain⟨mqa,mqc,rfl,-⟩:=hM.open'
     have HF:=hZq kM.frms
     obtain⟨fa,fc,rfl⟩:=kf_shape kM
     have HM:=hZq hM
     have HPS:=hZq mM
     have hfl:ps.length≤9223372036854775807:=by obtain⟨_,_,_,h⟩:=HF.out.1.open'; exact h
     clear hM kM mM
     clear b252
     have hsGB:=(Array.getElem?_eq_some_iff.1 GB.out).1
     have hsLB:=(Array.getElem?_eq_some_iff.1 LB.out).1
     have b253:=bl_newZ w252 (.cells #[.int .i64 0,.slice none 0 0,.bool false,.int .i64 0,.int .i64 0,.bool false,.int .i64 0] 33)
     have YB:=newQ w252 (.cells #[.int .i64 0,.slice none 0 0,.bool false,.int .i64 0,.int .i64 0,.bool false,.int .i64 0] 33)
     have hYB:w.heap.size≤w252.heap.size:=HB.out.size
     replace GB:=hZq (upQ GB.out b253)
     replace LB:=hZq (upQ LB.out b253)
     replace HQ:=hZq (Chgs.later HQ.out b253)
     replace HCA:=hZq (ChgsAt.later HCA.out b253)
     replace HM:=hZq (Chgs.later HM.out b253)
     replace HF:=hZq (Frms.later HF.out b253)
     replace HB:=hZq (below2Z HB.out b253)
     clear b253
     replace YB:=hZq YB
     go_wp2_with (with_reducible refine stA aggLink _ _ rfl rfl (w252.heap.size) 0 rfl YB.out [.int .i64 mseq,.slice mqa mql.length mqc,.bool false,.int .i64 mtok,.int .i64 mat',.bool msn,.int .i64 mdg] rfl rfl (Nat.le_of_ble_eq_true rfl) rfl [.int .i64 mseq,.slice mqa mql.length mqc,.bool false,.int .i64 mtok,.int .i64 mat',.bool msn,.int .i64 mdg] rfl ?_)
     intro w254 hst
     have HBz:=hZq (hst.bel HB.out (show w.heap.size≤w252.heap.size by omega))
     have GBz:=hZq (hst.keep GB.out (show ¬ w.heap.size=w252.heap.size by omega))
     have LBz:=hZq (hst.keep LB.out (show ¬ BLB=w252.heap.size by omega))
     have YBz:=hZq hst.at'
     have HQz:=hZq (Chgs.sta HQ.out hst YB.out rfl)
     have HCAz:=hZq (ChgsAt.sta HCA.out hst YB.out)
     have HMz:=hZq (Chgs.sta HM.out hst YB.out rfl)
     have HFz:=hZq (Frms.sta HF.out hst YB.out rfl)
     clear hst HB GB LB YB HQ HCA HM HF
     have HB:=HBz
     have GB:=GBz
     have LB:=LBz
     have YB:=YBz
     have HQ:=HQz
     have HCA:=HCAz
     have HM:=HMz
     have HF:=HFz
     clear HBz GBz LBz YBz HQz HCAz HMz HFz
     generalize w252.heap.size=BYB at YB hYB hsGB hsLB ⊢
     have dYBGB:¬ w.heap.size=BYB:=by omega
     have dYBLB:¬ BLB=BYB:=by omega
     have eYBGB:¬ BYB=w.heap.size:=by omega
     have eYBLB:¬ BYB=BLB:=by omega
     clear hsGB hsLB
     go_wp2_with fail
     have HC0:=hZq (show ChgsAt w254 mb k (dels ((ps.map FrS.f).drop 0) ++ mql) from by rw [List.drop_zero,HPS.out,← HEW.out.1]; exact HCA.out)
     go_loopw [7,11] (fun p i2 wx => ∃ (j m2:Nat),p=.map (some m2)∧i2=.int .i64 j∧j≤ps.length∧w.heap.size≤m2∧Hid (ChgsAt wx m2 k (dels ((ps.map FrS.f).drop j) ++ mql))∧Hid (wx.heap[BYB]?=some (.cells #[.int .i64 mseq,.slice mqa mql.length mqc,.bool false,.int .i64 mtok,.int .i64 mat',.bool msn,.int .i64 mdg] 33 (0,0)))∧Hid (wx.heap[BLB]?=some (.cells #[.int .i64 seq,.slice qa ql.length qc,.bool false,.int .i64 tok,.int .i64 at',.bool sn,.int .i64 dg] 33 (0,0)))∧Hid (wx.heap[w.heap.size]?=some (.cells #[.int .i64 ca,.int .i64 cb,.int .i64 cd,.int .i64 ce] 23 (0,0)))∧Hid (Chgs wx (.slice mqa mql.length mqc) mql)∧Hid (Frms wx (.slice fa ps.length fc) ps)∧Hid (Below w.heap.size w wx)) (fun _ i2 _ => ps.length - (intOf i2).toNat)
     case atStart => exact⟨0,mb,rfl,rfl,by omega,hmb,HC0,YB,LB,GB,HM,HF,HB⟩
     case round =>
      clear HC0 HCA YB LB GB HM HF HB HQ hmb HMY
      obtain⟨j,m2,rfl,rfl,hj,hm2,HCA,YB,LB,GB,HM,HF,HB⟩:=hrel
      by_cases hjl:j < ps.length
      ·have hd2:decide ((j:Int) < (ps.length:Int))=true:=by rw [decide_eq_true_eq]; omega
       have hwj:IntKind.i64.wrap ((j:Int)+1)=(j:Int)+1:=IntWalk.i64_in _ (by omega)
       obtain⟨g2,off2,rfl,hc2⟩:=HF.out.1.row (Below.refl _ _) j hjl
       have hg2:g2 < wr.heap.size:=World.block_lt_of_cell? wr _ (hc2 0 _ rfl)
       have hfj:j < fs.length:=by rw [← HPS.out]; simpa using hjl
       have hgd:fs.getD j Frm.zero=(ps.getD j FrS.zero).f:=by rw [← HPS.out]; simp [List.getD_eq_getElem?_getD,List.getElem?_map,List.getElem?_eq_getElem hjl]
       have hdj:=dels_at hfj
       rw [hgd] at hdj
       have hmay:=HRM.out j hfj
       have hge:fs[j]=(ps.getD j FrS.zero).f:=by rw [← hgd,List.getD_eq_getElem?_getD,List.getElem?_eq_getElem hfj]; rfl
       rw [hge] at hmay
       have hsn3:=HEW.out.2 j hfj
       rw [hgd] at hsn3
       rw [HPS.out] at HCA
       generalize ps.getD j FrS.zero=y at hc2 hdj hmay hsn3
       clear hgd hge
       obtain⟨⟨fk,fs0,fon,fc2,⟨fsh,fpr,fsi,fst⟩,fsum,ft⟩,ga,gn,gc⟩:=y
       simp only at hmay hsn3
       have HR6:=hZq (show CellsAt wr g2 (off2+j * 10) [.int .i64 fk,.int .i64 fs0,.bool fon,.string ⟨fc2.toArray⟩,.int .i64 fsh,.int .i64 fpr,.int .i64 fsi,.string ⟨fst.toArray⟩,.int .u64 fsum,.slice ga gn gc] from hc2)
       clear hc2
       by_cases h3:fk=3
       ·have t3:((fk:Int) == 3)=true:=by rw [beq_iff_eq]; exact h3
        obtain⟨e1,e2⟩:=hsn3 h3
        clear HCA
        have q0:wr.cell? ⟨g2,off2+j * 10,none⟩=some (.int .i64 fk):=HR6.out 0 _ rfl
        go_wp2_with fail
        have b855:=bl_newZ wr (.map #[] 0)
        have hm3:w.heap.size≤wr.heap.size:=HB.out.size
        replace GB:=hZq (upQ GB.out b855)
        replace LB:=hZq (upQ LB.out b855)
        replace YB:=hZq (upQ YB.out b855)
        replace HM:=hZq (Chgs.later HM.out b855)
        replace HF:=hZq (Frms.later HF.out b855)
        replace HB:=hZq (below2Z HB.out b855)
        have HC2:=hZq (chgsAt_made wr k)
        clear b855
        generalize wr.alloc (.map #[] 0)=w856 at GB LB YB HM HF HB HC2 ⊢
        generalize wr.heap.size=m3 at HC2 hm3 ⊢
        clear q0
        go_roundw
        case rel => exact⟨j+1,m3,rfl,by go_num,by omega,hm3,hZq (by rw [HPS.out,e1,e2]; exact HC2.out),YB,LB,GB,HM,HF,HB⟩
        case measure => simp [intOf]; omega
       ·have t3:((fk:Int) == 3)=false:=by rw [beq_eq_false_iff_ne]; exact h3
        by_cases h1:fk=1
        ·have t1:((fk:Int) == 1)=true:=by rw [beq_iff_eq]; exact h1
         have hc60:fc2.length≤60:=by
          rcases frMay_ways hmay.1 (by simp only; omega) with ⟨_,_,_,i1,_⟩ | ⟨h,_⟩ | ⟨h,_⟩
          ·have h9:=(idIs_parts i1).2.1
           simp only at h9
           omega
          ·simp only at h; omega
          ·simp only at h; omega
         have HC1:=hZq (show ChgsAt wr m2 k (⟨fc2,fon,⟨fsh,fpr,fsi,fst⟩⟩ :: (dels (fs.drop (j+1)) ++ mql)) from by have h:=HCA.out; rw [hdj,dels_one _ _ h1] at h; exact h)
         clear HCA
         have hfind:=find_mem HC1.out.no2 (List.mem_cons_self) false
         simp only at hfind
         have hlook:=HC1.out.lookOk fc2 (by omega)
         have hhas:=quFind_zero ⟨⟨fc2,fon,⟨fsh,fpr,fsi,fst⟩⟩ :: (dels (fs.drop (j+1)) ++ mql),false⟩ fc2
         rw [hfind] at hlook hhas
         simp only at hhas
         rw [← hhas] at hlook
         have HLK:=hZq hlook
         clear hfind hhas hlook
         have HM0:=HM
         have HF0:=HF
         have HR60:=HR6
         have hlk:=HLK.out
         have q0:wr.cell? ⟨g2,off2+j * 10,none⟩=some (.int .i64 fk):=HR6.out 0 _ rfl
         have q3:wr.cell? ⟨g2,off2+j * 10+3,none⟩=some (.string ⟨fc2.toArray⟩):=HR6.out 3 _ rfl
         have hsGB:=(Array.getElem?_eq_some_iff.1 GB.out).1
         have hsLB:=(Array.getElem?_eq_some_iff.1 LB.out).1
         have hsYB:=(Array.getElem?_eq_some_iff.1 YB.out).1
         have b905:=bl_newZ wr (.cells #[.string ⟨#[]⟩,.bool false,.int .i64 0,.int .i64 0,.int .i64 0,.string ⟨#[]⟩] 42)
         have VB6:=newQ wr (.cells #[.string ⟨#[]⟩,.bool false,.int .i64 0,.int .i64 0,.int .i64 0,.string ⟨#[]⟩] 42)
         have hVB6:w.heap.size≤wr.heap.size:=HB.out.size
         replace GB:=hZq (upQ GB.out b905)
         replace LB:=hZq (upQ LB.out b905)
         replace YB:=hZq (upQ YB.out b905)
         replace HC1:=hZq (ChgsAt.later HC1.out b905)
         replace HM:=hZq (Chgs.later HM.out b905)
         replace HF:=hZq (Frms.later HF.out b905)
         replace HR6:=hZq (CellsAt.later HR6.out b905)
         replace HB:=hZq (below2Z HB.out b905)
         clear b905
         replace VB6:=hZq VB6
         go_wp2_with (with_reducible refine stA aggChg _ _ rfl rfl (wr.heap.size) 0 rfl VB6.out [.string ⟨fc2.toArray⟩,.bool fon,.int .i64 fsh,.int .i64 fpr,.int .i64 fsi,.string ⟨fst.toArray⟩] rfl rfl (Nat.le_of_ble_eq_true rfl) rfl [.string ⟨fc2.toArray⟩,.bool fon,.int .i64 fsh,.int .i64 fpr,.int .i64 fsi,.string ⟨fst.toArray⟩] rfl ?_)
         intro w906 hst
         have HBz:=hZq (hst.bel HB.out (show w.heap.size≤wr.heap.size by omega))
         have GBz:=hZq (hst.keep GB.out (show ¬ w.heap.size=wr.heap.size by omega))
         have LBz:=hZq (hst.keep LB.out (show ¬ BLB=wr.heap.size by omega))
         have YBz:=hZq (hst.keep YB.out (show ¬ BYB=wr.heap.size by omega))
         have VB6z:=hZq hst.at'
         have HC1z:=hZq (ChgsAt.sta HC1.out hst VB6.out)
         have HMz:=hZq (Chgs.later HM0.out (hst.bel (bl_newZ wr (.cells #[.string ⟨#[]⟩,.bool false,.int .i64 0,.int .i64 0,.int .i64 0,.string ⟨#[]⟩] 42)) (Nat.le_refl _)))
         have HFz:=hZq (Frms.later HF0.out (hst.bel (bl_newZ wr (.cells #[.string ⟨#[]⟩,.bool false,.int .i64 0,.int .i64 0,.int .i64 0,.string ⟨#[]⟩] 42)) (Nat.le_refl _)))
         have HR6z:=hZq (CellsAt.later HR60.out (hst.bel (bl_newZ wr (.cells #[.string ⟨#[]⟩,.bool false,.int .i64 0,.int .i64 0,.int .i64 0,.string ⟨#[]⟩] 42)) (Nat.le_refl _)))
         clear hst HB GB LB YB VB6 HC1 HM HF HR6
         have HB:=HBz
         have GB:=GBz
         have LB:=LBz
         have YB:=YBz
         have VB6:=VB6z
         have HC1:=HC1z
         have HM:=HMz
         have HF:=HFz
         have HR6:=HR6z
         clear HBz GBz LBz YBz VB6z HC1z HMz HFz HR6z
         generalize wr.heap.size=BVB6 at VB6 hVB6 hsGB hsLB hsYB ⊢
         have dVB6GB:¬ w.heap.size=BVB6:=by omega
         have dVB6LB:¬ BLB=BVB6:=by omega
         have dVB6YB:¬ BYB=BVB6:=by omega
         have eVB6GB:¬ BVB6=w.heap.size:=by omega
         have eVB6LB:¬ BVB6=BLB:=by omega
         have eVB6YB:¬ BVB6=BYB:=by omega
         clear hsGB hsLB hsYB
         clear q0 q3 hlk HLK HM0 HF0 HR60
         have hvn:=fun w => val_selfX fst fsh fpr fsi w
         have hon:(fon != fon)=false:=bne_self_eq_false _
         have q2:w906.cell? ⟨g2,off2+j * 10+2,none⟩=some (.bool fon):=HR6.out 2 _ rfl
         have q4:w906.cell? ⟨g2,off2+j * 10+4,none⟩=some (.int .i64 fsh):=HR6.out 4 _ rfl
         have q5:w906.cell? ⟨g2,off2+j * 10+5,none⟩=some (.int .i64 fpr):=HR6.out 5 _ rfl
         have q6:w906.cell? ⟨g2,off2+j * 10+6,none⟩=some (.int .i64 fsi):=HR6.out 6 _ rfl
         have q7:w906.cell? ⟨g2,off2+j * 10+7,none⟩=some (.string ⟨fst.toArray⟩):=HR6.out 7 _ rfl
         have VB6k1:=ckZ VB6.out 1 _ rfl
         have VB6k2:=ckZ VB6.out 2 _ rfl
         have VB6k3:=ckZ VB6.out 3 _ rfl
         have VB6k4:=ckZ VB6.out 4 _ rfl
         have VB6k5:=ckZ VB6.out 5 _ rfl
         go_upto_region 20 with fail
         go_region
         clear VB6k1 VB6k2 VB6k3 VB6k4 VB6k5
         clear q2 q4 q5 q6 q7
         clear hvn hon
         replace GB:=hZq (upQ GB.out (Below.refl _ _).drew)
         replace LB:=hZq (upQ LB.out (Below.refl _ _).drew)
         replace YB:=hZq (upQ YB.out (Below.refl _ _).drew)
         replace VB6:=hZq (upQ VB6.out (Below.refl _ _).drew)
         replace HC1:=hZq (ChgsAt.later HC1.out (Below.refl _ _).drew)
         replace HM:=hZq (Chgs.later HM.out (Below.refl _ _).drew)
         replace HF:=hZq (Frms.later HF.out (Below.refl _ _).drew)
         replace HR6:=hZq (CellsAt.later HR6.out (Below.refl _ _).drew)
         replace HB:=hZq (below2Z HB.out (Below.refl _ _).drew)
         generalize w906.drew=w907 at GB LB YB VB6 HC1 HM HF HR6 HB ⊢
         have q3:w907.cell? ⟨g2,off2+j * 10+3,none⟩=some (.string ⟨fc2.toArray⟩):=HR6.out 3 _ rfl
         go_wp2_with (with_reducible refine wpList_chg_del rfl (.tmp 100) (.tmp 105) rfl m2 k ⟨fc2,fon,⟨fsh,fpr,fsi,fst⟩⟩ (dels (fs.drop (j+1)) ++ mql) rfl HC1.out (by simp only; omega) rfl ?_)
         intro w9 hca hmt
         have ht:=turnM_of hmt
         have YBz:=hZq (ht.keep HC1.out YB.out)
         have LBz:=hZq (ht.keep HC1.out LB.out)
         have GBz:=hZq (ht.keep HC1.out GB.out)
         have HMz:=hZq (ht.chgs HC1.out HM.out)
         have HFz:=hZq (ht.frms HC1.out HF.out)
         have HBz:=hZq (ht.bel HB.out hm2)
         have HC2:=hZq hca
         clear hca hmt ht q3 YB LB GB HM HF HB HC1
         have YB:=YBz
         have LB:=LBz
         have GB:=GBz
         have HM:=HMz
         have HF:=HFz
         have HB:=HBz
         clear YBz LBz GBz HMz HFz HBz
         go_wp2_with fail
         go_roundw
         case rel => exact⟨j+1,m2,rfl,by go_num,by omega,hm2,hZq (by rw [HPS.out]; exact HC2.out),YB,LB,GB,HM,HF,HB⟩
         case measure => simp [intOf]; omega
        ·have t1:((fk:Int) == 1)=false:=by rw [beq_eq_false_iff_ne]; exact h1
         have q0:wr.cell? ⟨g2,off2+j * 10,none⟩=some (.int .i64 fk):=HR6.out 0 _ rfl
         go_wp2_with fail
         clear q0
         go_roundw
         case rel => exact⟨j+1,m2,rfl,by go_num,by omega,hm2,hZq (by rw [HPS.out]; have h:=HCA.out; rw [hdj,dels_not _ _ h1] at h; exact h),YB,LB,GB,HM,HF,HB⟩
         case measure => simp [intOf]; omega
      ·have hd2:decide ((j:Int) < (ps.length:Int))=false:=by rw [decide_eq_false_iff_not]; omega
       obtain rfl:j=ps.length:=by omega
       have HC3:=hZq (show ChgsAt wr m2 k mql from by have h:=HCA.out; rw [List.drop_of_length_le (by simp)] at h; exact h)
       clear HCA HF
       go_wp2_with (first | (with_reducible refine ldA aggLink _ rfl rfl (BYB) 0 rfl YB.out [.int .i64 mseq,.slice mqa mql.length mqc,.bool false,.int .i64 mtok,.int .i64 mat',.bool msn,.int .i64 mdg] rfl rfl ?_) | (with_reducible refine stA aggLink _ _ rfl rfl (BLB) 0 rfl LB.out [.int .i64 mseq,.slice mqa mql.length mqc,.bool false,.int .i64 mtok,.int .i64 mat',.bool msn,.int .i64 mdg] rfl rfl (Nat.le_of_ble_eq_true rfl) rfl [.int .i64 mseq,.slice mqa mql.length mqc,.bool false,.int .i64 mtok,.int .i64 mat',.bool msn,.int .i64 mdg] rfl ?_))
       intro w1205 hst
       have HBz:=hZq (hst.bel HB.out (show w.heap.size≤BLB by omega))
       have GBz:=hZq (hst.keep GB.out (show ¬ w.heap.size=BLB by omega))
       have LBz:=hZq hst.at'
       have YBz:=hZq (hst.keep YB.out (show ¬ BYB=BLB by omega))
       have HC3z:=hZq (ChgsAt.sta HC3.out hst LB.out)
       have HMz:=hZq (Chgs.sta HM.out hst LB.out rfl)
       clear hst HB GB LB YB HC3 HM
       have HB:=HBz
       have GB:=GBz
       have LB:=LBz
       have YB:=YBz
       have HC3:=HC3z
       have HM:=HMz
       clear HBz GBz LBz YBz HC3z HMz
       go_wp2_with fail
       go_meet
       exact⟨mseq,mtok,mat',mdg,mql,msn,mqa,mqc,m2,rfl,hm2,HMM,LB,GB,HM,hZq (HC3.out.more (by omega)),HB⟩
   case rest =>
    clear HMY LB GB HQ HCA HB HSL hql16 hmb
    obtain⟨seq,tok,at',dg,ql,sn,qa,qc,mb,rfl,hmb,HMY,LB,GB,HQ,HCA,HB⟩:=hcut
    obtain⟨wj,hwj⟩ : ∃ X,X=wc:=⟨_,rfl⟩
    subst hwj
    have HSL:=hZq (lnMay_short HMY.out)
    have hql16:=HSL.out.2.1
    simp only at hql16
    have hroom:(ql.length:Int)≤ca:=(quMay_iff.1 (lnMay_iff.1 HMY.out).2.2.2.1).1
    have hsnq:=(lnMay_iff.1 HMY.out).2.2.2.2.2.2
    have hno2:=(quMay_iff.1 (lnMay_iff.1 HMY.out).2.2.2.1).2.2.2
    simp only at hsnq hno2 hroom
    have HNO:=hZq hno2
    clear hno2
    have g1:((ql.length:Int) != (ql.length:Int))=false:=bne_self_eq_false _
    have g2:decide (ca < (ql.length:Int))=false:=by rw [decide_eq_false_iff_not]; omega
    go_wp2_with (first | (with_reducible refine ldA aggCfg _ rfl rfl (w.heap.size) 0 rfl GB.out [.int .i64 ca,.int .i64 cb,.int .i64 cd,.int .i64 ce] rfl rfl ?_) | (with_reducible refine ldA aggLink _ rfl rfl (BLB) 0 rfl LB.out [.int .i64 seq,.slice qa ql.length qc,.bool false,.int .i64 tok,.int .i64 at',.bool sn,.int .i64 dg] rfl rfl ?_))
    refine (lmay_any HQ.out HSL.out.1 (by omega) false sn seq tok at' dg ca cb cd ce HMY).mono ?_
    rintro e w3001 ⟨rfl,b3001⟩
    replace GB:=hZq (upQ GB.out b3001)
    replace LB:=hZq (upQ LB.out b3001)
    replace HQ:=hZq (Chgs.later HQ.out b3001)
    replace HCA:=hZq (ChgsAt.later HCA.out b3001)
    replace HB:=hZq (below2Z HB.out b3001)
    clear b3001
    have hlen:=fun ty => HCA.out.len ty
    cases hsn:sn with
    | true =>
     rw [hsn] at LB HMY
     have hq0:=hsnq hsn
     have g3:decide (0 < (ql.length:Int))=false:=by rw [hq0]; rfl
     have LBk1:=ckZ LB.out 1 _ rfl
     have LBk5:=ckZ LB.out 5 _ rfl
     have GBk0:=ckZ GB.out 0 _ rfl
     go_upto_region 33 with fail
     clear LBk1 LBk5 GBk0
     clear hlen
     go_wp2_with fail
     go_loopw [15] (fun i wx => ∃ j:Nat,j≤ql.length∧i=.int .i64 j∧Hid (Below w3001.heap.size w3001 wx)) (fun i _ => ql.length - (intOf i).toNat)
     case atStart => exact⟨0,by omega,rfl,hZq (Below.refl _ _)⟩
     case round =>
      obtain⟨j,hj,rfl,HK⟩:=hrel
      by_cases hjl:j < ql.length
      ·exact absurd hjl (by rw [hq0]; simp)
      ·have hd2:decide ((j:Int) < (ql.length:Int))=false:=by rw [decide_eq_false_iff_not]; omega
       replace GB:=hZq (upQ GB.out HK.out)
       replace LB:=hZq (upQ LB.out HK.out)
       replace HQ:=hZq (Chgs.later HQ.out HK.out)
       replace HCA:=hZq (ChgsAt.later HCA.out HK.out)
       replace HB:=hZq (below2Z HB.out HK.out)
       have LBk1:=ckZ LB.out 1 _ rfl
       go_wp2_with fail
       clear LBk1
       go_roundw
       case rel => exact⟨k+1,seq,tok,at',dg,ql,true,qa,qc,mb,by omega,by go_num,rfl,hmb,HMY,LB,GB,HQ,HCA,HB⟩
       case measure => simp [intOf]; omega
    | false =>
     rw [hsn] at LB HMY
     have LBk1:=ckZ LB.out 1 _ rfl
     have LBk5:=ckZ LB.out 5 _ rfl
     have GBk0:=ckZ GB.out 0 _ rfl
     go_upto_region 33 with fail
     clear LBk1 LBk5 GBk0
     clear hlen
     go_wp2_with fail
     go_loopw [15] (fun i wx => ∃ j:Nat,j≤ql.length∧i=.int .i64 j∧Hid (Below w3001.heap.size w3001 wx)) (fun i _ => ql.length - (intOf i).toNat)
     case atStart => exact⟨0,by omega,rfl,hZq (Below.refl _ _)⟩
     case round =>
      obtain⟨j,hj,rfl,HK⟩:=hrel
      by_cases hjl:j < ql.length
      ·have hd2:decide ((j:Int) < (ql.length:Int))=true:=by rw [decide_eq_true_eq]; omega
       have hwj:IntKind.i64.wrap ((j:Int)+1)=(j:Int)+1:=IntWalk.i64_in _ (by omega)
       replace GB:=hZq (upQ GB.out HK.out)
       replace LB:=hZq (upQ LB.out HK.out)
       replace HQ:=hZq (Chgs.later HQ.out HK.out)
       replace HCA:=hZq (ChgsAt.later HCA.out HK.out)
       replace HB:=hZq (below2Z HB.out HK.out)
       obtain⟨g2,off2,rfl,hc2⟩:=HQ.out.rdS.row (Below.refl _ _) j hjl
       have hm2:ql.getD j Chg.zero ∈ ql:=by rw [List.getD_eq_getElem?_getD,List.getElem?_eq_getElem hjl]; exact List.getElem_mem hjl
       have hfm:=find_mem HNO.out hm2 false
       have hsh2:=HSL.out.1 _ hm2
       generalize ql.getD j Chg.zero=y at hc2 hfm hsh2
       obtain⟨yc,yo,⟨ya,yb,yd,ys⟩⟩:=y
       simp only at hfm hsh2
       have q0:wr.cell? ⟨g2,off2+j * 6,none⟩=some (.string ⟨yc.toArray⟩):=hc2 0 _ rfl
       have q1:wr.cell? ⟨g2,off2+j * 6+1,none⟩=some (.bool yo):=hc2 1 _ rfl
       have q2:wr.cell? ⟨g2,off2+j * 6+2,none⟩=some (.int .i64 ya):=hc2 2 _ rfl
       have q3:wr.cell? ⟨g2,off2+j * 6+3,none⟩=some (.int .i64 yb):=hc2 3 _ rfl
       have q4:wr.cell? ⟨g2,off2+j * 6+4,none⟩=some (.int .i64 yd):=hc2 4 _ rfl
       have q5:wr.cell? ⟨g2,off2+j * 6+5,none⟩=some (.string ⟨ys.toArray⟩):=hc2 5 _ rfl
       have hlook:=HCA.out.look yc hsh2.1
       rw [hfm] at hlook
       have hlookd:=HCA.out.drew.look yc hsh2.1
       rw [hfm] at hlookd
       simp only [chgAgg] at hlook hlookd
       have hne:=chg_selfX yc ys yo ya yb yd
       clear hc2 hfm
       have LBk1:=ckZ LB.out 1 _ rfl
       go_upto_region 36 with fail
       go_region
       clear LBk1
       clear q0 q1 q2 q3 q4 q5 hlook hlookd hne
       go_wp2_with fail
       go_roundw
       case rel => exact⟨j+1,by omega,by go_num,hZq HK.out.drew⟩
       case measure => simp [intOf]; omega
      ·have hd2:decide ((j:Int) < (ql.length:Int))=false:=by rw [decide_eq_false_iff_not]; omega
       replace GB:=hZq (upQ GB.out HK.out)
       replace LB:=hZq (upQ LB.out HK.out)
       replace HQ:=hZq (Chgs.later HQ.out HK.out)
       replace HCA:=hZq (ChgsAt.later HCA.out HK.out)
       replace HB:=hZq (below2Z HB.out HK.out)
       have LBk1:=ckZ LB.out 1 _ rfl
       go_wp2_with fail
       clear LBk1
       go_roundw
       case rel => exact⟨k+1,seq,tok,at',dg,ql,false,qa,qc,mb,by omega,by go_num,rfl,hmb,HMY,LB,GB,HQ,HCA,HB⟩
       case measure => simp [intOf]; omega
  ·have hd:decide ((k:Int) < (l.length:Int))=false:=by rw [decide_eq_false_iff_not]; omega
   go_wp2_with fail
   refine (live18 _).mono ?_
   rintro e w151 ⟨rfl,b151⟩
   replace HB:=hZq (below2Z HB.out b151)
   clear b151
   go_wp2_with fail
   go_ret
   exact⟨rfl,HB.out⟩

theorem walkLinkPushes {w:World} {v:Value} {l:List Chg} (c:Cfg) (_:CfgFit c) (hv:Chgs w v l) :
  Calls Try.prog 3 #[.agg #[.int .i64 c.room,.int .i64 c.burst,.int .i64 c.rate,.int .i64 c.per],v] w fun e w' => e=.returned (.bool true)∧Below w.heap.size w w':=by
 cases h1:fewC l 60 with
 | false => exact lpu_a hv _ _ _ _ (hZq h1)
 | true =>
  cases h2:pcMay c with
  | false => exact lpu_b hv _ _ _ _ (hZq h1) (hZq h2)
  | true => exact lpu_c hv _ _ _ _ (hZq h1) (hZq h2)

end Go.Proofs.Ytfocooajnignbaa
end

section
namespace Go.Proofs.Ytfocooajnignbaa.linkPushes
open Go.ChangeShapes Go.WideShapes Go.ChangeAt Go.RowKit
open Go.ChangeMaps (open_string shut_string)
set_option linter.unusedVariables false

theorem own:ownKnob Try.prog.godebug=none:=by kernel_rfl
theorem laidOut:laidOutB Try.prog=true:=by kernel_rfl

theorem lifted (os:Os) (started:os.Started) (H:Type) (enc:TypeId × Value→H) :
  ReturnsInHanded {} Try.checked os 3 .any (Rows.linkPushesSpec.pre6 enc Try.prog Try.f3 Rows.linkPushesRow.domain false) (Rows.linkPushesSpec.post enc Try.prog Try.f3 false true false false):=by
 refine returnsInHanded_of_change (C:=Try.checked) own started (by kernel_rfl) Try.func3
  (ChangeSpec.witness6 (enc:=enc) (C:=Try.checked) false ⟨#[],#[.agg #[.int .i64 0,.int .i64 0,.int .i64 0,.int .i64 0],.slice none 0 0],[]⟩ 8 (by kernel_rfl) (by kernel_rfl) (by kernel_rfl) (by kernel_rfl)) ?_
 intro W base args ds gs before hval0 hW hcnd _
 have hval:∀ (j:Nat) t v,Try.f3.params[j]?=some t→args[j]?=some v→Value.okWide Try.prog W .any base t v:=hval0
 have hW':=hW
 obtain⟨p,q,hA0,hV,rfl,hfz,hnd⟩:=hW
 have hA:DataW.TrodAll enc Try.prog W 0 (fun _ => true) true Try.f3.params.toList args.toList ds p:=hA0
 rw [Try.params3] at hA hval
 obtain⟨v0,vs0,d0,ds0,p0,q0,hargs,rfl,rfl,h0,r0⟩:=trodAll_cons hA
 obtain⟨v1,vs1,d1,ds1,p1,q1,rfl,rfl,rfl,h1,r1⟩:=trodAll_cons r0
 obtain⟨rfl,rfl,rfl⟩:=trodAll_nil r1
 obtain rfl:args=#[v0,v1]:=by cases args; simp_all
 obtain⟨rfl,rfl⟩:=trodVars_none hV
 have k0:=h0
 have lt0:∀ x ∈ p0,x.block < W.heap.size:=by obtain⟨m,hm⟩:=k0; exact DataW.trod_lt m _ _ _ hm
 obtain⟨a0,rfl,w0⟩:=open_cfg (hval 0 23 v0 rfl rfl) h0
 have k1:=h1
 have lt1:∀ x ∈ p1,x.block < W.heap.size:=by obtain⟨m,hm⟩:=k1; exact DataW.trod_lt m _ _ _ hm
 obtain⟨l1,w1⟩:=open_chgs (hval 1 24 v1 rfl rfl) h1
 clear hA0 hval0
 refine (walkLinkPushes (w:=W) a0 w0 w1).mono fun e W' ⟨he,bel⟩ => ?_
 subst he
 exact⟨_,rfl,_,_,_,[],_,[],hW',trodAll_mk1 (shut_bool Try.underlying4 _),(trodAll_cons_mk (Below.trod laidOut (by kernel_rfl) (of_decide_eq_true (by kernel_rfl)) k0 bel lt0) (trodAll_cons_mk (Below.trod laidOut (by kernel_rfl) (of_decide_eq_true (by kernel_rfl)) k1 bel lt1) trodAll_mk0)),rfl,bel.frame _,fun h => by cases h⟩

theorem over:Rows.linkPushesRow.holds Try.pinned (OpenSpec.ofChange Rows.linkPushesSpec) :=
 OpenClaim.holds_of_wide 3 Try.f3 rfl rfl rfl rfl rfl rfl rfl ⟨rfl,rfl,rfl,rfl,rfl⟩ rfl rfl rfl rfl rfl (by kernel_rfl) Try.func3 (by kernel_rfl)
  (of_decide_eq_true (by kernel_rfl)) (by unfold Func.isWrapper; first | (rw [if_pos (by decide +kernel)]; kernel_rfl) | (rw [if_neg (by decide +kernel)]; exact⟨rfl,rfl⟩))
  (fun os started H enc _ => lifted os started H enc)

theorem proved:Rows.LinkPushesSaid:=over
#print axioms proved
end Go.Proofs.Ytfocooajnignbaa.linkPushes
end
