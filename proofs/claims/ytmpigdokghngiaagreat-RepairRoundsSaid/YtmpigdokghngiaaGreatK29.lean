/-
 TEXTS OF THE PROOF, one behind the other: HeldC, LnkRW, RepDoc.
-/
import Derived.Test.YtmpigdokghngiaaGreatK05
import Derived.Test.YtmpigdokghngiaaGreatK28
import Derived.Test.YtmpigdokghngiaaGreatK24
import Derived.Test.YtmpigdokghngiaaGreatK13
import Derived.Deep.Cut
import Derived.Test.YtmpigdokghngiaaGreatK26
import Derived.Test.YtmpigdokghngiaaGreatK20

set_option maxHeartbeats 12800000
set_option maxRecDepth 100000

namespace Go.Proofs.YtmpigdokghngiaaGreat
section
open Go.RowKit

def heldC (X:World) (cs:List (Nat × Nat × Value)):Prop:=∀ p ∈ cs,X.cell? ⟨p.1,p.2.1,none⟩=some p.2.2

theorem heldC_nil (X:World):heldC X []:=fun p h => by cases h
theorem heldC_cons {X:World} {b o:Nat} {v:Value} {cs:List (Nat × Nat × Value)} (h:X.cell? ⟨b,o,none⟩=some v) (ht:heldC X cs):heldC X ((b,o,v) :: cs):=fun p hp => by
 rcases List.mem_cons.1 hp with rfl | hp
 ·exact h
 ·exact ht p hp
theorem heldC_up {W X:World} {cs:List (Nat × Nat × Value)} (hb:Below W.heap.size W X) (h:heldC W cs):heldC X cs:=fun p hp => cellLaterZ (h p hp) hb
theorem heldC_get {X:World} {cs:List (Nat × Nat × Value)} (h:heldC X cs) {b o:Nat} {v:Value} (hm:(b,o,v) ∈ cs):X.cell? ⟨b,o,none⟩=some v:=h _ hm
end
section
open Go.RowKit

def FrC (W:World) (v:Value) (fs:List Frm):Prop :=
 ∃ a c,v=.slice a fs.length c∧∀ k,k < fs.length→∃ g pa pc,a=some ⟨g,0,none⟩∧CellsAt W g (k * 10) (frCells (fs.getD k Frm.zero) (.slice pa (fs.getD k Frm.zero).t.length pc))∧Tab W (.slice pa (fs.getD k Frm.zero).t.length pc) (fs.getD k Frm.zero).t

theorem FrC.later {w W:World} {v:Value} {fs:List Frm} (h:FrC w v fs) (hb:Below w.heap.size w W):FrC W v fs:=by
 obtain⟨a,c,e,hk⟩:=h
 refine ⟨a,c,e,fun k hk2 => ?_⟩
 obtain⟨g,pa,pc,e1,h1,h2⟩:=hk k hk2
 exact⟨g,pa,pc,e1,CellsAt.later h1 hb,Tab.later h2 hb⟩

theorem rlemit_eq {w:World} {v vt:Value} {ql:List Chg} {view:List Row} (hv:Chgs w v ql) (ht:Tab w vt view) (hs:ShortC ql) (hl:ql.length≤100) (hsh:Short view) (ca cb cd ce seq tok at' dg now:Int) (la sn:Bool)
  {ms mt ma md:Int} {mq:List Chg} {ml mn:Bool} {fs:List Frm} (hr:Hid (lnEmit ⟨ca,cb,cd,ce⟩ ⟨seq,⟨ql,la⟩,⟨tok,at'⟩,sn,dg⟩ view now=(⟨ms,⟨mq,ml⟩,⟨mt,ma⟩,mn,md⟩,fs))) :
  Calls Tryz.prog 42 #[.agg #[.int .i64 ca,.int .i64 cb,.int .i64 cd,.int .i64 ce],.agg #[.int .i64 seq,v,.bool la,.int .i64 tok,.int .i64 at',.bool sn,.int .i64 dg],vt,.int .i64 now] w fun e w' =>
   ∃ u fv ps,e=.returned (.tuple #[.agg #[.int .i64 ms,u,.bool ml,.int .i64 mt,.int .i64 ma,.bool mn,.int .i64 md],fv])∧Chgs w' u mq∧KG w w' fv ps∧ps.map FrS.f=fs∧Below w.heap.size w w' :=
 rlemit_any hv ht hs hl hsh ca cb cd ce seq tok at' dg now la sn hr
end
section
open Go.RowKit

theorem aggRSide:AggTy 35 10:=⟨⟨_,Tryz.underlying35,rfl⟩,by kernel_rfl⟩

theorem heldC_farF2 {X W:World} {cs:List (Nat × Nat × Value)} {B:Nat} (h:heldC X cs) (hfar:∀ k,¬ k=B→W.heap[k]?=X.heap[k]?) (hn:∀ p ∈ cs,¬ p.1=B):heldC W cs:=fun p hp =>
 (World.cell?_of_block (hfar p.1 (hn p hp))).trans (h p hp)

theorem frm_atD {w W:World} {a:Option Addr} {n c:Nat} {ps:List FrS} (h:Frms w (.slice a n c) ps) (hb:Below w.heap.size w W) {j:Nat} (hj:j < ps.length):∃ b off,a=some ⟨b,off,none⟩∧CellsAt W b (off+j * 10) (frVals (ps.getD j FrS.zero))∧Tab W (ps.getD j FrS.zero).tv (ps.getD j FrS.zero).f.t∧b < w.heap.size:=by
 obtain⟨b,off,e,hc,ht⟩:=frm_at h hb hj
 refine ⟨b,off,e,hc,ht,?_⟩
 obtain⟨b2,off2,e2,hc2,-⟩:=frm_at h (Below.refl _ _) hj
 rw [e] at e2
 obtain⟨rfl,rfl,-⟩:=Addr.mk.inj (Option.some.inj e2)
 exact World.block_lt_of_cell? w _ (hc2 0 _ rfl)

theorem rrpround_in {w:World} {v cv vv:Value} {ql:List Chg} {ct view:List Row} (hv:Chgs w v ql) (hc:Tab w cv ct) (ht:Tab w vv view) (hs:ShortC ql) (hl:ql.length≤100) (hsT:Short ct) (hlT:ct.length≤1000) (hsh:Short view) (ca cb cd ce seq tok at' dg now nn:Int) (la sn oo:Bool)
  {xs xt xat xd n2:Int} {xq:List Chg} {xl xn o2:Bool} {t2:List Row} {ms mt ma md:Int} {mq:List Chg} {ml mn r:Bool} {fs:List Frm} {s:List UInt8} (hr:Hid (lnEmit ⟨ca,cb,cd,ce⟩ ⟨seq,⟨ql,la⟩,⟨tok,at'⟩,sn,dg⟩ view now=(⟨ms,⟨mq,ml⟩,⟨mt,ma⟩,mn,md⟩,fs))) (hfd:Hid (fs.foldl clFeed ⟨ct,nn,oo⟩=⟨t2,n2,o2⟩)) (HA:Hid (clAsk ⟨t2,n2,o2⟩=(s,r))) (HM:Hid ((if r=true then (rpRead ⟨ms,⟨mq,ml⟩,⟨mt,ma⟩,mn,md⟩ s).1 else ⟨ms,⟨mq,ml⟩,⟨mt,ma⟩,mn,md⟩)=⟨xs,⟨xq,xl⟩,⟨xt,xat⟩,xn,xd⟩)) :
  Calls Tryz.prog 15 #[.agg #[.int .i64 ca,.int .i64 cb,.int .i64 cd,.int .i64 ce],.agg #[.int .i64 seq,v,.bool la,.int .i64 tok,.int .i64 at',.bool sn,.int .i64 dg,cv,.int .i64 nn,.bool oo],vv,.int .i64 now] w fun e w' => ∃ u tv,e=.returned (.agg #[.int .i64 xs,u,.bool xl,.int .i64 xt,.int .i64 xat,.bool xn,.int .i64 xd,tv,.int .i64 n2,.bool o2])∧Chgs w' u xq∧Tab w' tv t2∧Below w.heap.size w w':=by
 obtain⟨qa,qc,rfl,-⟩:=hv.open'
 obtain⟨ta,tc,rfl,-⟩:=hc.open'
 obtain⟨va,vc,rfl,-⟩:=ht.open'
 have HFM:=hZq (emit_fit hr.out hs hl).2.2
 obtain⟨GB,XB,RS,HB⟩:=ent3 w (.cells #[.int .i64 ca,.int .i64 cb,.int .i64 cd,.int .i64 ce] 23) (.cells #[.int .i64 seq,.slice qa ql.length qc,.bool la,.int .i64 tok,.int .i64 at',.bool sn,.int .i64 dg,.slice ta ct.length tc,.int .i64 nn,.bool oo] 35) (.cells #[.int .i64 0,.slice none 0 0,.bool false,.int .i64 0,.int .i64 0,.bool false,.int .i64 0,.slice none 0 0,.int .i64 0,.bool false] 35)
 have HV:=hZq ((hv).later HB.out)
 have HC:=hZq ((hc).later HB.out)
 have HT:=hZq ((ht).later HB.out)
 clear hv hc ht
 go_enter Tryz.func15,Tryz.ntmps15
 go_wp2_with (first | (with_reducible refine ldA aggCfg _ rfl rfl (w.heap.size) 0 rfl GB.out [.int .i64 ca,.int .i64 cb,.int .i64 cd,.int .i64 ce] rfl rfl ?_) | (with_reducible refine ldA aggLink _ rfl rfl (w.heap.size+1) 0 rfl XB.out [.int .i64 seq,.slice qa ql.length qc,.bool la,.int .i64 tok,.int .i64 at',.bool sn,.int .i64 dg] rfl rfl ?_))
 refine (rlemit_eq HV.out HT.out hs hl hsh ca cb cd ce seq tok at' dg now la sn hr).mono ?_
 rintro e w4 ⟨u,fv,ps,rfl,hU,hF,hps,b4⟩
 replace GB:=hZq (upQ GB.out b4)
 replace XB:=hZq (upQ XB.out b4)
 replace RS:=hZq (upQ RS.out b4)
 replace HV:=hZq (HV.out.later b4)
 replace HC:=hZq (HC.out.later b4)
 replace HT:=hZq (HT.out.later b4)
 replace HB:=hZq (below2Z HB.out b4)
 clear HV HT
 have HV:=hZq hU
 have HF:=hZq (hF.frms b4)
 obtain⟨fa,fc,rfl⟩:=kg_shape hF
 have HPS:=hZq hps
 obtain⟨ua,uc,rfl,-⟩:=hU.open'
 clear hU hF hps
 clear b4
 have HV0:=HV
 have HC0:=HC
 have HF0:=HF
 have hsGB4:=(Array.getElem?_eq_some_iff.1 GB.out).1
 have hsXB4:=(Array.getElem?_eq_some_iff.1 XB.out).1
 have hsRS4:=(Array.getElem?_eq_some_iff.1 RS.out).1
 have b5:=bl_newZ w4 (.cells #[.int .i64 0,.slice none 0 0,.bool false,.int .i64 0,.int .i64 0,.bool false,.int .i64 0] 30)
 have LB:=newQ w4 (.cells #[.int .i64 0,.slice none 0 0,.bool false,.int .i64 0,.int .i64 0,.bool false,.int .i64 0] 30)
 have hLB:w.heap.size≤w4.heap.size:=HB.out.size
 replace GB:=hZq (upQ GB.out b5)
 replace XB:=hZq (upQ XB.out b5)
 replace RS:=hZq (upQ RS.out b5)
 replace HV:=hZq (HV.out.later b5)
 replace HC:=hZq (HC.out.later b5)
 replace HF:=hZq (HF.out.later b5)
 replace HB:=hZq (below2Z HB.out b5)
 clear b5
 replace LB:=hZq LB
 go_wp2_with (with_reducible refine stA aggLink _ _ rfl rfl (w4.heap.size) 0 rfl LB.out [.int .i64 ms,.slice ua mq.length uc,.bool ml,.int .i64 mt,.int .i64 ma,.bool mn,.int .i64 md] rfl rfl (Nat.le_of_ble_eq_true rfl) rfl [.int .i64 ms,.slice ua mq.length uc,.bool ml,.int .i64 mt,.int .i64 ma,.bool mn,.int .i64 md] rfl ?_)
 intro w6 hst
 have HBz:=hZq (hst.bel HB.out (show w.heap.size≤w4.heap.size by omega))
 have GBz:=hZq (hst.keep GB.out (show ¬ w.heap.size=w4.heap.size by omega))
 have XBz:=hZq (hst.keep XB.out (show ¬ w.heap.size+1=w4.heap.size by omega))
 have RSz:=hZq (hst.keep RS.out (show ¬ w.heap.size+1+1=w4.heap.size by omega))
 have LBz:=hZq hst.at'
 have HVz:=hZq (Chgs.later HV0.out (hst.bel (bl_newZ w4 (.cells #[.int .i64 0,.slice none 0 0,.bool false,.int .i64 0,.int .i64 0,.bool false,.int .i64 0] 30)) (Nat.le_refl _)))
 have HCz:=hZq (Tab.later HC0.out (hst.bel (bl_newZ w4 (.cells #[.int .i64 0,.slice none 0 0,.bool false,.int .i64 0,.int .i64 0,.bool false,.int .i64 0] 30)) (Nat.le_refl _)))
 have HFz:=hZq (Frms.later HF0.out (hst.bel (bl_newZ w4 (.cells #[.int .i64 0,.slice none 0 0,.bool false,.int .i64 0,.int .i64 0,.bool false,.int .i64 0] 30)) (Nat.le_refl _)))
 clear hst HB GB XB RS LB HV HC HF
 have HB:=HBz
 have GB:=GBz
 have XB:=XBz
 have RS:=RSz
 have LB:=LBz
 have HV:=HVz
 have HC:=HCz
 have HF:=HFz
 clear HBz GBz XBz RSz LBz HVz HCz HFz
 clear HV0 HC0 HF0
 generalize w4.heap.size=BL at LB hLB hsXB4 hsGB4 hsRS4 ⊢
 have XB0:=XB
 have LBo:=LB
 have RSo:=RS
 have HV0:=HV
 have HC0:=HC
 have HF0:=HF
 have hsGB6:=(Array.getElem?_eq_some_iff.1 GB.out).1
 have hsXB6:=(Array.getElem?_eq_some_iff.1 XB.out).1
 have hsRS6:=(Array.getElem?_eq_some_iff.1 RS.out).1
 have hsLB6:=(Array.getElem?_eq_some_iff.1 LB.out).1
 have b7:=bl_newZ w6 (.cells #[.slice none 0 0,.int .i64 0,.bool false] 33)
 have CC:=newQ w6 (.cells #[.slice none 0 0,.int .i64 0,.bool false] 33)
 have hCC:w.heap.size≤w6.heap.size:=HB.out.size
 replace GB:=hZq (upQ GB.out b7)
 replace XB:=hZq (upQ XB.out b7)
 replace RS:=hZq (upQ RS.out b7)
 replace LB:=hZq (upQ LB.out b7)
 replace HV:=hZq (HV.out.later b7)
 replace HC:=hZq (HC.out.later b7)
 replace HF:=hZq (HF.out.later b7)
 replace HB:=hZq (below2Z HB.out b7)
 clear b7
 replace CC:=hZq CC
 go_wp2_with (first | (with_reducible refine ldA aggCli _ rfl rfl (w.heap.size+1) 7 rfl XB0.out [.slice ta ct.length tc,.int .i64 nn,.bool oo] rfl rfl ?_) | (with_reducible refine stA aggCli _ _ rfl rfl (w6.heap.size) 0 rfl CC.out [.slice ta ct.length tc,.int .i64 nn,.bool oo] rfl rfl (Nat.le_of_ble_eq_true rfl) rfl [.slice ta ct.length tc,.int .i64 nn,.bool oo] rfl ?_))
 intro w8 hst
 have HB0:=hZq (hst.bel (bl_newZ w6 (.cells #[.slice none 0 0,.int .i64 0,.bool false] 33)) (Nat.le_refl _))
 have HBz:=hZq (hst.bel HB.out (show w.heap.size≤w6.heap.size by omega))
 have GBz:=hZq (hst.keep GB.out (show ¬ w.heap.size=w6.heap.size by omega))
 have XBz:=hZq (hst.keep XB.out (show ¬ w.heap.size+1=w6.heap.size by omega))
 have RSz:=hZq (hst.keep RS.out (show ¬ w.heap.size+1+1=w6.heap.size by omega))
 have LBz:=hZq (hst.keep LB.out (show ¬ BL=w6.heap.size by omega))
 have CCz:=hZq hst.at'
 have HVz:=hZq (Chgs.later HV0.out (hst.bel (bl_newZ w6 (.cells #[.slice none 0 0,.int .i64 0,.bool false] 33)) (Nat.le_refl _)))
 have HCz:=hZq (Tab.later HC0.out (hst.bel (bl_newZ w6 (.cells #[.slice none 0 0,.int .i64 0,.bool false] 33)) (Nat.le_refl _)))
 have HFz:=hZq (Frms.later HF0.out (hst.bel (bl_newZ w6 (.cells #[.slice none 0 0,.int .i64 0,.bool false] 33)) (Nat.le_refl _)))
 clear hst HB GB XB RS LB CC HV HC HF
 have HB:=HBz
 have GB:=GBz
 have XB:=XBz
 have RS:=RSz
 have LB:=LBz
 have CC:=CCz
 have HV:=HVz
 have HC:=HCz
 have HF:=HFz
 clear HBz GBz XBz RSz LBz CCz HVz HCz HFz
 clear XB0
 have HU:=HC
 clear XB GB LB RS HV HC HF
 go_wp2_with fail
 go_loopw [12] (fun i wr => ∃ (j:Nat) (jt:List Row) (jn:Int) (jo:Bool) (ja:Option Addr) (jc:Nat),j≤ps.length∧i=.int .i64 j∧Hid (((ps.map FrS.f).take j).foldl clFeed ⟨ct,nn,oo⟩=⟨jt,jn,jo⟩)∧Hid (wr.heap[w6.heap.size]?=some (.cells #[.slice ja jt.length jc,.int .i64 jn,.bool jo] 33 (0,0)))∧Hid (Tab wr (.slice ja jt.length jc) jt)∧Hid (Below w6.heap.size w6 wr)∧Hid (Below w.heap.size w wr)) (fun i _ => ps.length - (intOf i).toNat)
 case atStart => exact⟨0,ct,nn,oo,ta,tc,by omega,rfl,hZq rfl,CC,HU,HB0,HB⟩
 case round =>
  obtain⟨j,jt,jn,jo,ja,jc,hj,rfl,HJ,CC2,HU2,HB02,HB2⟩:=hrel
  clear CC HU HB0 HB
  have CC:=CC2
  have HU:=HU2
  have HB0:=HB02
  have HB:=HB2
  clear CC2 HU2 HB02 HB2
  have hfl:ps.length≤9223372036854775807:=by obtain⟨_,_,_,h⟩:=HF0.out.1.open'; exact h
  by_cases hlt:j < ps.length
  ·have hwj:IntKind.i64.wrap ((j:Int)+1)=(j:Int)+1:=IntWalk.i64_in _ (by omega)
   have hdj:decide ((j:Int) < (ps.length:Int))=true:=by rw [decide_eq_true_eq]; omega
   obtain⟨g,off,rfl,hc,htb,hgs⟩:=frm_atD HF0.out HB0.out hlt
   have HM:=hZq (frMay_at (ps:=ps) (by rw [HPS.out]; exact HFM.out) hlt)
   have HN:=hZq (rp_fold_next (c:=⟨ct,nn,oo⟩) hlt)
   have HX:=hZq (feeds_fit ((ps.map FrS.f).take j) (c:=⟨ct,nn,oo⟩) hsT hlT)
   rw [HJ.out] at HX
   generalize ps.getD j FrS.zero=p at hc htb HM HN
   obtain⟨⟨fk,fs0,fon,fc2,⟨fsh,fpr,fsi,fst⟩,fsum,ft⟩,ga,gn,gc⟩:=p
   have hgB:¬ g=w6.heap.size:=by omega
   have q0:wr.cell? ⟨g,off+j * 10,none⟩=some (.int .i64 fk):=hc 0 _ rfl
   have q1:wr.cell? ⟨g,off+j * 10+1,none⟩=some (.int .i64 fs0):=hc 1 _ rfl
   have q2:wr.cell? ⟨g,off+j * 10+2,none⟩=some (.bool fon):=hc 2 _ rfl
   have q3:wr.cell? ⟨g,off+j * 10+3,none⟩=some (.string ⟨fc2.toArray⟩):=hc 3 _ rfl
   have q4:wr.cell? ⟨g,off+j * 10+4,none⟩=some (.int .i64 fsh):=hc 4 _ rfl
   have q5:wr.cell? ⟨g,off+j * 10+5,none⟩=some (.int .i64 fpr):=hc 5 _ rfl
   have q6:wr.cell? ⟨g,off+j * 10+6,none⟩=some (.int .i64 fsi):=hc 6 _ rfl
   have q7:wr.cell? ⟨g,off+j * 10+7,none⟩=some (.string ⟨fst.toArray⟩):=hc 7 _ rfl
   have q8:wr.cell? ⟨g,off+j * 10+8,none⟩=some (.int .u64 fsum):=hc 8 _ rfl
   have q9:wr.cell? ⟨g,off+j * 10+9,none⟩=some (.slice ga gn gc):=hc 9 _ rfl
   have HTF:=hZq htb
   clear hc htb
   have HFIT:=hZq (frMay_fit HM.out.1 HM.out.2)
   obtain⟨t3,n3,o3,h3⟩ : ∃ t3 n3 o3,clFeed ⟨jt,jn,jo⟩ ⟨fk,fs0,fon,fc2,⟨fsh,fpr,fsi,fst⟩,fsum,ft⟩=⟨t3,n3,o3⟩:=⟨_,_,_,rfl⟩
   have H3:=hZq h3
   have HNX:Hid (((ps.map FrS.f).take (j+1)).foldl clFeed ⟨ct,nn,oo⟩=⟨t3,n3,o3⟩):=hZq (by rw [HN.out,HJ.out]; exact h3)
   clear h3 HN
   go_upto_region 6 with fail
   obtain⟨BS,hBS⟩ : ∃ BS:List (Nat × List Value),BS=[]:=⟨_,rfl⟩
   obtain⟨CS,hCS⟩ : ∃ CS:List (Nat × Nat × Value),CS=[(g,off+j * 10,.int .i64 fk),(g,off+j * 10+1,.int .i64 fs0),(g,off+j * 10+2,.bool fon),(g,off+j * 10+3,.string ⟨fc2.toArray⟩),(g,off+j * 10+4,.int .i64 fsh),(g,off+j * 10+5,.int .i64 fpr),(g,off+j * 10+6,.int .i64 fsi),(g,off+j * 10+7,.string ⟨fst.toArray⟩),(g,off+j * 10+8,.int .u64 fsum),(g,off+j * 10+9,.slice ga gn gc)]:=⟨_,rfl⟩
   have D0:=hZq (show heldC wr CS from by rw [hCS]; exact heldC_cons (q0) (heldC_cons (q1) (heldC_cons (q2) (heldC_cons (q3) (heldC_cons (q4) (heldC_cons (q5) (heldC_cons (q6) (heldC_cons (q7) (heldC_cons (q8) (heldC_cons (q9) (heldC_nil _)))))))))))
   have hq0:∀ X,heldC X CS→X.cell? ⟨g,off+j * 10,none⟩=some (.int .i64 fk):=fun X hx => heldC_get hx (by rw [hCS]; simp)
   have hq1:∀ X,heldC X CS→X.cell? ⟨g,off+j * 10+1,none⟩=some (.int .i64 fs0):=fun X hx => heldC_get hx (by rw [hCS]; simp)
   have hq2:∀ X,heldC X CS→X.cell? ⟨g,off+j * 10+2,none⟩=some (.bool fon):=fun X hx => heldC_get hx (by rw [hCS]; simp)
   have hq3:∀ X,heldC X CS→X.cell? ⟨g,off+j * 10+3,none⟩=some (.string ⟨fc2.toArray⟩):=fun X hx => heldC_get hx (by rw [hCS]; simp)
   have hq4:∀ X,heldC X CS→X.cell? ⟨g,off+j * 10+4,none⟩=some (.int .i64 fsh):=fun X hx => heldC_get hx (by rw [hCS]; simp)
   have hq5:∀ X,heldC X CS→X.cell? ⟨g,off+j * 10+5,none⟩=some (.int .i64 fpr):=fun X hx => heldC_get hx (by rw [hCS]; simp)
   have hq6:∀ X,heldC X CS→X.cell? ⟨g,off+j * 10+6,none⟩=some (.int .i64 fsi):=fun X hx => heldC_get hx (by rw [hCS]; simp)
   have hq7:∀ X,heldC X CS→X.cell? ⟨g,off+j * 10+7,none⟩=some (.string ⟨fst.toArray⟩):=fun X hx => heldC_get hx (by rw [hCS]; simp)
   have hq8:∀ X,heldC X CS→X.cell? ⟨g,off+j * 10+8,none⟩=some (.int .u64 fsum):=fun X hx => heldC_get hx (by rw [hCS]; simp)
   have hq9:∀ X,heldC X CS→X.cell? ⟨g,off+j * 10+9,none⟩=some (.slice ga gn gc):=fun X hx => heldC_get hx (by rw [hCS]; simp)
   have hCN:Hid (∀ p ∈ CS,¬ p.1=w6.heap.size):=hZq (by rw [hCS]; intro p hp; simp only [List.mem_cons,List.not_mem_nil,or_false] at hp; rcases hp with rfl | rfl | rfl | rfl | rfl | rfl | rfl | rfl | rfl | rfl <;> exact hgB)
   clear hCS
   clear q0 q1 q2 q3 q4 q5 q6 q7 q8 q9
   clear hBS
   have K0:Hid (Below wr.heap.size wr wr.drew):=hZq (Below.refl _ _).drew
   refine wp_region_held_drew (S:=(fun X => heldC X CS)) (by kernel_rfl) ?_ (fun hHeld => ?_)
   ·exact heldC_up K0.out D0.out
   generalize wr.drew=z0 at K0 hHeld ⊢
   refine tkZ 1 ?_
   refine tkZ 2 ?_
   refine tkZ 3 ?_
   refine tkZ 4 ?_
   obtain⟨⟨q0,q1,q2⟩,-⟩:=blk3 (upQ CC.out (K0.out))
   refine wpAnyH_ready (rs:=[0]) (by as_aux_lemma => kernel_rfl) (by simp) ?_
   refine AllReadyH.cons rfl (fun Kx hK => ?_) AllReadyH.nil
   go_simp
   refine hK.out _ _ ?_ (fun hHeld2 => ?_)
   ·exact heldC_up (K0.out) D0.out
   clear hK Kx hHeld q0 q1 q2
   have hHeld:=hHeld2
   clear hHeld2
   try simp only [Act.put,List.setIfInBounds_toArray,List.set_cons_zero,List.set_cons_succ]
   refine wpAnyH_ready (rs:=[5]) (by as_aux_lemma => kernel_rfl) (by simp) ?_
   refine AllReadyH.cons rfl (fun Kx hK => ?_) AllReadyH.nil
   go_simp
   refine (rclfeed_any (HU.out.later (K0.out)) (HTF.out.later (K0.out)) jn jo HX.out.1 HFIT.out.2.2.1 HFIT.out.1 HFIT.out.2.1 HX.out.2 H3).mono ?_
   rintro e z21002 ⟨uA,rfl,hA,bz21002⟩
   have K21002:=hZq (below2Z K0.out bz21002)
   have D21002:=hZq (heldC_up K21002.out D0.out)
   replace hA:=CT.tab hA (HU.out.later (K21002.out)) (HTF.out.later (K21002.out))
   obtain⟨ya,yc,rfl,-⟩:=hA.open'
   have TA:=hZq hA
   clear hA
   clear bz21002
   go_wp2_with fail
   refine hK.out _ _ ?_ (fun hHeld2 => ?_)
   ·exact D21002.out
   clear hK Kx hHeld
   have hHeld:=hHeld2
   clear hHeld2
   try simp only [Act.put,List.setIfInBounds_toArray,List.set_cons_zero,List.set_cons_succ]
   obtain⟨⟨r0,r1,r2⟩,⟨g0,g1,g2⟩⟩:=blk3 (upQ CC.out (K21002.out))
   refine wpAnyH_ready (rs:=[6]) (by as_aux_lemma => kernel_rfl) (by simp) ?_
   refine AllReadyH.cons rfl (fun Kx hK => ?_) AllReadyH.nil
   go_simp
   clear r0 r1 r2 g0 g1 g2
   have CCz:=hZq (stN3_heap (upQ CC.out (K21002.out)) (.slice ya t3.length yc) (.int .i64 n3) (.bool o3))
   have TAz:=hZq (TA.out.nostr (noTx_str (l:=[.slice ja jt.length jc,.int .i64 jn,.bool jo]) (upQ CC.out (K21002.out)) rfl) (fun k hk => stN3_far z21002 (w6.heap.size) (.slice ya t3.length yc) (.int .i64 n3) (.bool o3) hk) (stN3_size z21002 (w6.heap.size) (.slice ya t3.length yc) (.int .i64 n3) (.bool o3)))
   have HBz:=hZq (stN3_below (below2Z HB.out (K21002.out)) (show w.heap.size≤w6.heap.size by omega) (.slice ya t3.length yc) (.int .i64 n3) (.bool o3))
   have HB0z:=hZq (stN3_below (below2Z HB0.out (K21002.out)) (Nat.le_refl _) (.slice ya t3.length yc) (.int .i64 n3) (.bool o3))
   have HLD:=hZq (heldC_farF2 (heldC_up (K21002.out) D0.out) (fun k hk => stN3_far z21002 (w6.heap.size) (.slice ya t3.length yc) (.int .i64 n3) (.bool o3) hk) hCN.out)
   refine hK.out _ _ ?_ (fun hHeld2 => ?_)
   ·exact HLD.out
   clear hK Kx hHeld HLD CC HU HB0 HB TA
   have hHeld:=hHeld2
   clear hHeld2
   obtain⟨zs,hzs⟩ : ∃ X,X=stN3 z21002 (w6.heap.size) (.slice ya t3.length yc) (.int .i64 n3) (.bool o3):=⟨_,rfl⟩
   rw [← hzs] at CCz TAz HBz HB0z
   unfold stN3 at hzs
   simp only [← hzs] at hHeld ⊢
   clear hzs
   refine wpAnyH_done (by kernel_rfl) ?_ _
   go_wp2_with fail
   go_roundw
   case rel => exact⟨j+1,t3,n3,o3,ya,yc,by omega,by go_num,HNX,CCz,TAz,HB0z,HBz⟩
   case measure => simp [intOf]; omega
  ·obtain rfl:j=ps.length:=by omega
   have hdj:decide ((ps.length:Int) < (ps.length:Int))=false:=by rw [decide_eq_false_iff_not]; omega
   have HE:Hid ((⟨jt,jn,jo⟩ : Cli)=⟨t2,n2,o2⟩):=hZq (by rw [← HJ.out,← hfd.out,← HPS.out,List.take_of_length_le (by simp)])
   obtain⟨rfl,rfl,rfl⟩:=Cli.mk.inj HE.out
   clear HE
   have HX:=hZq (feeds_fit ((ps.map FrS.f).take ps.length) (c:=⟨ct,nn,oo⟩) hsT hlT)
   rw [HJ.out] at HX
   clear HJ
   have LB:=hZq (upQ LBo.out HB0.out)
   have RS:=hZq (upQ RSo.out HB0.out)
   have HV:=hZq (HV0.out.later HB0.out)
   clear LBo RSo HV0 HC0 HF0 HB0
   go_wp2_with (with_reducible refine ldA aggCli _ rfl rfl (w6.heap.size) 0 rfl CC.out [.slice ja jt.length jc,.int .i64 jn,.bool jo] rfl rfl ?_)
   refine (rclask_any HU.out jn jo HX.out.1 HA).mono ?_
   rintro e w501 ⟨rfl,b501⟩
   replace CC:=hZq (upQ CC.out b501)
   replace LB:=hZq (upQ LB.out b501)
   replace RS:=hZq (upQ RS.out b501)
   replace HV:=hZq (HV.out.later b501)
   replace HU:=hZq (HU.out.later b501)
   replace HB:=hZq (below2Z HB.out b501)
   clear b501
   cases r with
   | false =>
    obtain⟨rfl,h3,h4,rfl,rfl⟩:=Lnk.mk.inj (show ⟨ms,⟨mq,ml⟩,⟨mt,ma⟩,mn,md⟩=(⟨xs,⟨xq,xl⟩,⟨xt,xat⟩,xn,xd⟩ : Lnk) from HM.out)
    obtain⟨rfl,rfl⟩:=Que.mk.inj h3
    obtain⟨rfl,rfl⟩:=Bkt.mk.inj h4
    clear h3 h4
    go_wp2_with (first | (with_reducible refine ldA aggLink _ rfl rfl (BL) 0 rfl LB.out [.int .i64 ms,.slice ua mq.length uc,.bool ml,.int .i64 mt,.int .i64 ma,.bool mn,.int .i64 md] rfl rfl ?_) | (with_reducible refine ldA aggCli _ rfl rfl (w6.heap.size) 0 rfl CC.out [.slice ja jt.length jc,.int .i64 jn,.bool jo] rfl rfl ?_) | (with_reducible refine stA aggRSide _ _ rfl rfl (w.heap.size+1+1) 0 rfl RS.out [.int .i64 ms,.slice ua mq.length uc,.bool ml,.int .i64 mt,.int .i64 ma,.bool mn,.int .i64 md,.slice ja jt.length jc,.int .i64 jn,.bool jo] rfl rfl (Nat.le_of_ble_eq_true rfl) rfl [.int .i64 ms,.slice ua mq.length uc,.bool ml,.int .i64 mt,.int .i64 ma,.bool mn,.int .i64 md,.slice ja jt.length jc,.int .i64 jn,.bool jo] rfl ?_))
    intro w601 hst
    have HBz:=hZq (hst.bel HB.out (show w.heap.size≤w.heap.size+1+1 by omega))
    have CCz:=hZq (hst.keep CC.out (show ¬ w6.heap.size=w.heap.size+1+1 by omega))
    have LBz:=hZq (hst.keep LB.out (show ¬ BL=w.heap.size+1+1 by omega))
    have RSz:=hZq hst.at'
    have HVz:=hZq (Chgs.sta HV.out hst RS.out rfl)
    have HUz:=hZq (Tab.sta HU.out hst RS.out rfl)
    clear hst HB CC LB RS HV HU
    have HB:=HBz
    have CC:=CCz
    have LB:=LBz
    have RS:=RSz
    have HV:=HVz
    have HU:=HUz
    clear HBz CCz LBz RSz HVz HUz
    go_wp2_with fail
    refine retA aggRSide _ (w.heap.size+1+1) Tryz.results15 rfl (cs:=[.int .i64 ms,.slice ua mq.length uc,.bool ml,.int .i64 mt,.int .i64 ma,.bool mn,.int .i64 md,.slice ja jt.length jc,.int .i64 jn,.bool jo]) RS.out rfl rfl ?_
    exact⟨_,_,rfl,HV.out,HU.out,HB.out⟩
   | true =>
    obtain⟨q4,hd4⟩:=ask_dec HA.out
    have HD4:=hZq hd4
    clear hd4
    have hl0:=(ask_read HA.out ⟨ms,⟨mq,ml⟩,⟨mt,ma⟩,mn,md⟩).2.2
    have hm:=(show (rpRead ⟨ms,⟨mq,ml⟩,⟨mt,ma⟩,mn,md⟩ s).1=(⟨xs,⟨xq,xl⟩,⟨xt,xat⟩,xn,xd⟩ : Lnk) from HM.out)
    rw [(ask_read HA.out ⟨ms,⟨mq,ml⟩,⟨mt,ma⟩,mn,md⟩).1] at hm
    obtain⟨rfl,h2,h3,rfl,rfl⟩:=Lnk.mk.inj (show lnAsk ⟨ms,⟨mq,ml⟩,⟨mt,ma⟩,mn,md⟩=⟨xs,⟨xq,xl⟩,⟨xt,xat⟩,xn,xd⟩ from hm)
    obtain⟨rfl,rfl⟩:=Que.mk.inj h2
    obtain⟨rfl,rfl⟩:=Bkt.mk.inj h3
    clear hm h2 h3 HM
    go_wp2_with (with_reducible refine ldA aggLink _ rfl rfl (BL) 0 rfl LB.out [.int .i64 ms,.slice ua mq.length uc,.bool ml,.int .i64 mt,.int .i64 ma,.bool mn,.int .i64 md] rfl rfl ?_)
    refine (rrpread_r HV.out _ hl0 HD4).mono ?_
    rintro e w701 ⟨rfl,b701⟩
    replace CC:=hZq (upQ CC.out b701)
    replace LB:=hZq (upQ LB.out b701)
    replace RS:=hZq (upQ RS.out b701)
    replace HV:=hZq (HV.out.later b701)
    replace HU:=hZq (HU.out.later b701)
    replace HB:=hZq (below2Z HB.out b701)
    clear b701
    clear HV
    go_wp2_with (with_reducible refine stA aggLink _ _ rfl rfl (BL) 0 rfl LB.out [.int .i64 ms,.slice none 0 0,.bool false,.int .i64 mt,.int .i64 ma,.bool true,.int .i64 md] rfl rfl (Nat.le_of_ble_eq_true rfl) rfl [.int .i64 ms,.slice none 0 0,.bool false,.int .i64 mt,.int .i64 ma,.bool true,.int .i64 md] rfl ?_)
    intro w702 hst
    have HBz:=hZq (hst.bel HB.out (show w.heap.size≤BL by omega))
    have CCz:=hZq (hst.keep CC.out (show ¬ w6.heap.size=BL by omega))
    have LBz:=hZq hst.at'
    have RSz:=hZq (hst.keep RS.out (show ¬ w.heap.size+1+1=BL by omega))
    have HUz:=hZq (Tab.sta HU.out hst LB.out rfl)
    clear hst HB CC LB RS HU
    have HB:=HBz
    have CC:=CCz
    have LB:=LBz
    have RS:=RSz
    have HU:=HUz
    clear HBz CCz LBz RSz HUz
    go_wp2_with (first | (with_reducible refine ldA aggLink _ rfl rfl (BL) 0 rfl LB.out [.int .i64 ms,.slice none 0 0,.bool false,.int .i64 mt,.int .i64 ma,.bool true,.int .i64 md] rfl rfl ?_) | (with_reducible refine ldA aggCli _ rfl rfl (w6.heap.size) 0 rfl CC.out [.slice ja jt.length jc,.int .i64 jn,.bool jo] rfl rfl ?_) | (with_reducible refine stA aggRSide _ _ rfl rfl (w.heap.size+1+1) 0 rfl RS.out [.int .i64 ms,.slice none 0 0,.bool false,.int .i64 mt,.int .i64 ma,.bool true,.int .i64 md,.slice ja jt.length jc,.int .i64 jn,.bool jo] rfl rfl (Nat.le_of_ble_eq_true rfl) rfl [.int .i64 ms,.slice none 0 0,.bool false,.int .i64 mt,.int .i64 ma,.bool true,.int .i64 md,.slice ja jt.length jc,.int .i64 jn,.bool jo] rfl ?_))
    intro w703 hst
    have HBz:=hZq (hst.bel HB.out (show w.heap.size≤w.heap.size+1+1 by omega))
    have CCz:=hZq (hst.keep CC.out (show ¬ w6.heap.size=w.heap.size+1+1 by omega))
    have LBz:=hZq (hst.keep LB.out (show ¬ BL=w.heap.size+1+1 by omega))
    have RSz:=hZq hst.at'
    have HUz:=hZq (Tab.sta HU.out hst RS.out rfl)
    clear hst HB CC LB RS HU
    have HB:=HBz
    have CC:=CCz
    have LB:=LBz
    have RS:=RSz
    have HU:=HUz
    clear HBz CCz LBz RSz HUz
    go_wp2_with fail
    refine retA aggRSide _ (w.heap.size+1+1) Tryz.results15 rfl (cs:=[.int .i64 ms,.slice none 0 0,.bool false,.int .i64 mt,.int .i64 ma,.bool true,.int .i64 md,.slice ja jt.length jc,.int .i64 jn,.bool jo]) RS.out rfl rfl ?_
    exact⟨_,_,rfl,chgs_nilL _,HU.out,HB.out⟩

theorem rrpround {w:World} {v cv vv:Value} {ql:List Chg} {ct view:List Row} (hv:Chgs w v ql) (hc:Tab w cv ct) (ht:Tab w vv view) (hs:ShortC ql) (hl:ql.length≤100) (hsT:Short ct) (hlT:ct.length≤1000) (hsh:Short view) (ca cb cd ce seq tok at' dg now nn:Int) (la sn oo:Bool)
  {xs xt xat xd n2:Int} {xq:List Chg} {xl xn o2:Bool} {t2:List Row} (h:Hid (rpRound ⟨ca,cb,cd,ce⟩ view now (⟨seq,⟨ql,la⟩,⟨tok,at'⟩,sn,dg⟩,⟨ct,nn,oo⟩)=(⟨xs,⟨xq,xl⟩,⟨xt,xat⟩,xn,xd⟩,⟨t2,n2,o2⟩))) :
  Calls Tryz.prog 15 #[.agg #[.int .i64 ca,.int .i64 cb,.int .i64 cd,.int .i64 ce],.agg #[.int .i64 seq,v,.bool la,.int .i64 tok,.int .i64 at',.bool sn,.int .i64 dg,cv,.int .i64 nn,.bool oo],vv,.int .i64 now] w fun e w' => ∃ u tv,e=.returned (.agg #[.int .i64 xs,u,.bool xl,.int .i64 xt,.int .i64 xat,.bool xn,.int .i64 xd,tv,.int .i64 n2,.bool o2])∧Chgs w' u xq∧Tab w' tv t2∧Below w.heap.size w w':=by
 obtain⟨m,fs,he⟩ : ∃ m fs,lnEmit ⟨ca,cb,cd,ce⟩ ⟨seq,⟨ql,la⟩,⟨tok,at'⟩,sn,dg⟩ view now=(m,fs):=⟨_,_,rfl⟩
 obtain⟨d,hd⟩ : ∃ d,fs.foldl clFeed ⟨ct,nn,oo⟩=d:=⟨_,rfl⟩
 obtain⟨s,r,ha⟩ : ∃ s r,clAsk d=(s,r):=⟨_,_,rfl⟩
 have h:=h.out
 rw [round_parts he hd ha] at h
 obtain⟨h1,rfl⟩:=Prod.mk.inj h
 obtain⟨ms,⟨mq,ml⟩,⟨mt,ma⟩,mn,md⟩:=m
 exact rrpround_in hv hc ht hs hl hsT hlT hsh ca cb cd ce seq tok at' dg now nn la sn oo (hZq he) (hZq hd) (hZq ha) (hZq h1)

theorem rrpsettle {w:World} {v cv vv:Value} {ql:List Chg} {ct view:List Row} (hv:Chgs w v ql) (hc:Tab w cv ct) (ht:Tab w vv view) (hs:ShortC ql) (hl:ql.length≤100) (hsT:Short ct) (hlT:ct.length≤1000) (hsh:Short view) (ca cb cd ce seq tok at' dg now nn rounds:Int) (la sn oo:Bool) (hnow:-9223372036854775808≤now) (hnow2:now≤9223372036854770000)
  {xs xt xat xd n2:Int} {xq:List Chg} {xl xn o2:Bool} {t2:List Row} (h:Hid (rpSettle ⟨ca,cb,cd,ce⟩ view (min rounds 3000).toNat now (⟨seq,⟨ql,la⟩,⟨tok,at'⟩,sn,dg⟩,⟨ct,nn,oo⟩)=(⟨xs,⟨xq,xl⟩,⟨xt,xat⟩,xn,xd⟩,⟨t2,n2,o2⟩))) :
  Calls Tryz.prog 17 #[.agg #[.int .i64 ca,.int .i64 cb,.int .i64 cd,.int .i64 ce],.agg #[.int .i64 seq,v,.bool la,.int .i64 tok,.int .i64 at',.bool sn,.int .i64 dg,cv,.int .i64 nn,.bool oo],vv,.int .i64 now,.int .i64 rounds] w fun e w' => ∃ u tv,e=.returned (.agg #[.int .i64 xs,u,.bool xl,.int .i64 xt,.int .i64 xat,.bool xn,.int .i64 xd,tv,.int .i64 n2,.bool o2])∧Chgs w' u xq∧Tab w' tv t2∧Below w.heap.size w w':=by
 obtain⟨qa,qc,rfl,-⟩:=hv.open'
 obtain⟨ta,tc,rfl,-⟩:=hc.open'
 obtain⟨va,vc,rfl,-⟩:=ht.open'
 have HT0:=hZq ht
 have HFIT:=hZq (RpFit.mk (s:=(⟨seq,⟨ql,la⟩,⟨tok,at'⟩,sn,dg⟩,⟨ct,nn,oo⟩)) hs hl hsT hlT)
 obtain⟨GB,SD,RS,HB⟩:=ent3 w (.cells #[.int .i64 ca,.int .i64 cb,.int .i64 cd,.int .i64 ce] 23) (.cells #[.int .i64 seq,.slice qa ql.length qc,.bool la,.int .i64 tok,.int .i64 at',.bool sn,.int .i64 dg,.slice ta ct.length tc,.int .i64 nn,.bool oo] 35) (.cells #[.int .i64 0,.slice none 0 0,.bool false,.int .i64 0,.int .i64 0,.bool false,.int .i64 0,.slice none 0 0,.int .i64 0,.bool false] 35)
 have HV:=hZq ((hv).later HB.out)
 have HC:=hZq ((hc).later HB.out)
 clear hv hc ht hs hl hsT hlT
 go_enter Tryz.func17,Tryz.ntmps17
 go_wp2_with fail
 generalize hN:(min rounds 3000).toNat=N at h
 have hN2:N≤3000:=by omega
 go_loopw [11] (fun i wr => ∃ (k:Nat) (ys ytk yat ydg yn:Int) (yq:List Chg) (yl ysn yo:Bool) (yt:List Row) (ya yb:Option Addr) (yc yd:Nat),k≤N∧i=.int .i64 (k+1)∧Hid (rpSettle ⟨ca,cb,cd,ce⟩ view k now (⟨seq,⟨ql,la⟩,⟨tok,at'⟩,sn,dg⟩,⟨ct,nn,oo⟩)=(⟨ys,⟨yq,yl⟩,⟨ytk,yat⟩,ysn,ydg⟩,⟨yt,yn,yo⟩))∧Hid (Chgs wr (.slice ya yq.length yd) yq)∧Hid (Tab wr (.slice yb yt.length yc) yt)∧Hid (wr.heap[w.heap.size+1]?=some (.cells #[.int .i64 ys,.slice ya yq.length yd,.bool yl,.int .i64 ytk,.int .i64 yat,.bool ysn,.int .i64 ydg,.slice yb yt.length yc,.int .i64 yn,.bool yo] 35 (0,0)))∧Hid (wr.heap[w.heap.size]?=some (.cells #[.int .i64 ca,.int .i64 cb,.int .i64 cd,.int .i64 ce] 23 (0,0)))∧Hid (wr.heap[w.heap.size+1+1]?=some (.cells #[.int .i64 0,.slice none 0 0,.bool false,.int .i64 0,.int .i64 0,.bool false,.int .i64 0,.slice none 0 0,.int .i64 0,.bool false] 35 (0,0)))∧Hid (Below w.heap.size w wr)) (fun i _ => N+1 - (intOf i).toNat)
 case atStart => exact⟨0,seq,tok,at',dg,nn,ql,la,sn,oo,ct,qa,ta,tc,qc,by omega,rfl,hZq rfl,HV,HC,SD,GB,RS,HB⟩
 case round =>
  clear HV HC SD GB RS HB
  obtain⟨k,ys,ytk,yat,ydg,yn,yq,yl,ysn,yo,yt,ya,yb,yc,yd,hk,rfl,HK,HV,HC,SD,GB,RS,HB⟩:=hrel
  have HFK:=hZq (settle_fit (cfg:=⟨ca,cb,cd,ce⟩) (view:=view) k (t:=now) HFIT.out)
  rw [HK.out] at HFK
  by_cases hlt:k < N
  ·have g1:decide ((k:Int)+1≤rounds)=true:=by rw [decide_eq_true_eq]; omega
   have g2:decide ((k:Int)+1≤3000)=true:=by rw [decide_eq_true_eq]; omega
   have w2:IntKind.i64.wrap (now+((k:Int)+1))=now+((k:Int)+1):=IntWalk.i64_in _ (by omega)
   obtain⟨⟨zs,⟨zq,zl⟩,⟨ztk,zat⟩,zsn,zdg⟩,⟨zt,zn,zo⟩,hz⟩ : ∃ Z1 Z2,rpRound ⟨ca,cb,cd,ce⟩ view (now+((k:Int)+1)) (⟨ys,⟨yq,yl⟩,⟨ytk,yat⟩,ysn,ydg⟩,⟨yt,yn,yo⟩)=(Z1,Z2):=⟨_,_,rfl⟩
   have HZ:=hZq hz
   clear hz
   have HK2:=hZq (show rpSettle ⟨ca,cb,cd,ce⟩ view (k+1) now (⟨seq,⟨ql,la⟩,⟨tok,at'⟩,sn,dg⟩,⟨ct,nn,oo⟩)=(⟨zs,⟨zq,zl⟩,⟨ztk,zat⟩,zsn,zdg⟩,⟨zt,zn,zo⟩) by
    rw [rpSettle_last,HK.out,← HZ.out,show now+(k:Int)+1=(now+((k:Int)+1)) by omega])
   go_wp2_with (first | (with_reducible refine ldA aggCfg _ rfl rfl (w.heap.size) 0 rfl GB.out [.int .i64 ca,.int .i64 cb,.int .i64 cd,.int .i64 ce] rfl rfl ?_) | (with_reducible refine ldA aggRSide _ rfl rfl (w.heap.size+1) 0 rfl SD.out [.int .i64 ys,.slice ya yq.length yd,.bool yl,.int .i64 ytk,.int .i64 yat,.bool ysn,.int .i64 ydg,.slice yb yt.length yc,.int .i64 yn,.bool yo] rfl rfl ?_))
   refine (rrpround HV.out HC.out (HT0.out.later HB.out) HFK.out.sc HFK.out.ql HFK.out.st HFK.out.tl hsh ca cb cd ce ys ytk yat ydg (now+((k:Int)+1)) yn yl ysn yo HZ).mono ?_
   rintro e w11 ⟨u,tv,rfl,hU,hT,b11⟩
   replace GB:=hZq (upQ GB.out b11)
   replace SD:=hZq (upQ SD.out b11)
   replace RS:=hZq (upQ RS.out b11)
   replace HV:=hZq (HV.out.later b11)
   replace HC:=hZq (HC.out.later b11)
   replace HB:=hZq (below2Z HB.out b11)
   obtain⟨za,zd,rfl,-⟩:=hU.open'
   obtain⟨zb,zc,rfl,-⟩:=hT.open'
   clear HV HC
   have HV:=hZq hU
   have HC:=hZq hT
   clear hU hT
   clear b11
   go_wp2_with (with_reducible refine stA aggRSide _ _ rfl rfl (w.heap.size+1) 0 rfl SD.out [.int .i64 zs,.slice za zq.length zd,.bool zl,.int .i64 ztk,.int .i64 zat,.bool zsn,.int .i64 zdg,.slice zb zt.length zc,.int .i64 zn,.bool zo] rfl rfl (Nat.le_of_ble_eq_true rfl) rfl [.int .i64 zs,.slice za zq.length zd,.bool zl,.int .i64 ztk,.int .i64 zat,.bool zsn,.int .i64 zdg,.slice zb zt.length zc,.int .i64 zn,.bool zo] rfl ?_)
   intro w12 hst
   have HBz:=hZq (hst.bel HB.out (show w.heap.size≤w.heap.size+1 by omega))
   have GBz:=hZq (hst.keep GB.out (show ¬ w.heap.size=w.heap.size+1 by omega))
   have SDz:=hZq hst.at'
   have RSz:=hZq (hst.keep RS.out (show ¬ w.heap.size+1+1=w.heap.size+1 by omega))
   have HVz:=hZq (Chgs.sta HV.out hst SD.out rfl)
   have HCz:=hZq (Tab.sta HC.out hst SD.out rfl)
   clear hst HB GB SD RS HV HC
   have HB:=HBz
   have GB:=GBz
   have SD:=SDz
   have RS:=RSz
   have HV:=HVz
   have HC:=HCz
   clear HBz GBz SDz RSz HVz HCz
   go_wp2_with fail
   go_roundw
   case rel => exact⟨k+1,zs,ztk,zat,zdg,zn,zq,zl,zsn,zo,zt,za,zb,zc,zd,by omega,by go_num,HK2,HV,HC,SD,GB,RS,HB⟩
   case measure => simp [intOf]; omega
  ·obtain rfl:k=N:=by omega
   have HE:Hid (((⟨ys,⟨yq,yl⟩,⟨ytk,yat⟩,ysn,ydg⟩ : Lnk),(⟨yt,yn,yo⟩ : Cli))=((⟨xs,⟨xq,xl⟩,⟨xt,xat⟩,xn,xd⟩ : Lnk),(⟨t2,n2,o2⟩ : Cli))):=hZq (by rw [← HK.out,← h.out])
   obtain⟨h1,h2⟩:=Prod.mk.inj HE.out
   obtain⟨rfl,h3,h4,rfl,rfl⟩:=Lnk.mk.inj h1
   obtain⟨rfl,rfl⟩:=Que.mk.inj h3
   obtain⟨rfl,rfl⟩:=Bkt.mk.inj h4
   obtain⟨rfl,rfl,rfl⟩:=Cli.mk.inj h2
   clear HE h1 h2 h3 h4 HK HFK
   by_cases hr:(k:Int)+1≤rounds
   ·have g1:decide ((k:Int)+1≤rounds)=true:=by rw [decide_eq_true_eq]; exact hr
    have g2:decide ((k:Int)+1≤3000)=false:=by rw [decide_eq_false_iff_not]; omega
    go_wp2_with (first | (with_reducible refine ldA aggRSide _ rfl rfl (w.heap.size+1) 0 rfl SD.out [.int .i64 ys,.slice ya yq.length yd,.bool yl,.int .i64 ytk,.int .i64 yat,.bool ysn,.int .i64 ydg,.slice yb yt.length yc,.int .i64 yn,.bool yo] rfl rfl ?_) | (with_reducible refine stA aggRSide _ _ rfl rfl (w.heap.size+1+1) 0 rfl RS.out [.int .i64 ys,.slice ya yq.length yd,.bool yl,.int .i64 ytk,.int .i64 yat,.bool ysn,.int .i64 ydg,.slice yb yt.length yc,.int .i64 yn,.bool yo] rfl rfl (Nat.le_of_ble_eq_true rfl) rfl [.int .i64 ys,.slice ya yq.length yd,.bool yl,.int .i64 ytk,.int .i64 yat,.bool ysn,.int .i64 ydg,.slice yb yt.length yc,.int .i64 yn,.bool yo] rfl ?_))
    intro w51 hst
    have HBz:=hZq (hst.bel HB.out (show w.heap.size≤w.heap.size+1+1 by omega))
    have GBz:=hZq (hst.keep GB.out (show ¬ w.heap.size=w.heap.size+1+1 by omega))
    have SDz:=hZq (hst.keep SD.out (show ¬ w.heap.size+1=w.heap.size+1+1 by omega))
    have RSz:=hZq hst.at'
    have HVz:=hZq (Chgs.sta HV.out hst RS.out rfl)
    have HCz:=hZq (Tab.sta HC.out hst RS.out rfl)
    clear hst HB GB SD RS HV HC
    have HB:=HBz
    have GB:=GBz
    have SD:=SDz
    have RS:=RSz
    have HV:=HVz
    have HC:=HCz
    clear HBz GBz SDz RSz HVz HCz
    go_wp2_with fail
    refine retA aggRSide _ (w.heap.size+1+1) Tryz.results17 rfl (cs:=[.int .i64 ys,.slice ya yq.length yd,.bool yl,.int .i64 ytk,.int .i64 yat,.bool ysn,.int .i64 ydg,.slice yb yt.length yc,.int .i64 yn,.bool yo]) RS.out rfl rfl ?_
    exact⟨_,_,rfl,HV.out,HC.out,HB.out⟩
   ·have g1:decide ((k:Int)+1≤rounds)=false:=by rw [decide_eq_false_iff_not]; exact hr
    go_wp2_with (first | (with_reducible refine ldA aggRSide _ rfl rfl (w.heap.size+1) 0 rfl SD.out [.int .i64 ys,.slice ya yq.length yd,.bool yl,.int .i64 ytk,.int .i64 yat,.bool ysn,.int .i64 ydg,.slice yb yt.length yc,.int .i64 yn,.bool yo] rfl rfl ?_) | (with_reducible refine stA aggRSide _ _ rfl rfl (w.heap.size+1+1) 0 rfl RS.out [.int .i64 ys,.slice ya yq.length yd,.bool yl,.int .i64 ytk,.int .i64 yat,.bool ysn,.int .i64 ydg,.slice yb yt.length yc,.int .i64 yn,.bool yo] rfl rfl (Nat.le_of_ble_eq_true rfl) rfl [.int .i64 ys,.slice ya yq.length yd,.bool yl,.int .i64 ytk,.int .i64 yat,.bool ysn,.int .i64 ydg,.slice yb yt.length yc,.int .i64 yn,.bool yo] rfl ?_))
    intro w61 hst
    have HBz:=hZq (hst.bel HB.out (show w.heap.size≤w.heap.size+1+1 by omega))
    have GBz:=hZq (hst.keep GB.out (show ¬ w.heap.size=w.heap.size+1+1 by omega))
    have SDz:=hZq (hst.keep SD.out (show ¬ w.heap.size+1=w.heap.size+1+1 by omega))
    have RSz:=hZq hst.at'
    have HVz:=hZq (Chgs.sta HV.out hst RS.out rfl)
    have HCz:=hZq (Tab.sta HC.out hst RS.out rfl)
    clear hst HB GB SD RS HV HC
    have HB:=HBz
    have GB:=GBz
    have SD:=SDz
    have RS:=RSz
    have HV:=HVz
    have HC:=HCz
    clear HBz GBz SDz RSz HVz HCz
    go_wp2_with fail
    refine retA aggRSide _ (w.heap.size+1+1) Tryz.results17 rfl (cs:=[.int .i64 ys,.slice ya yq.length yd,.bool yl,.int .i64 ytk,.int .i64 yat,.bool ysn,.int .i64 ydg,.slice yb yt.length yc,.int .i64 yn,.bool yo]) RS.out rfl rfl ?_
    exact⟨_,_,rfl,HV.out,HC.out,HB.out⟩

theorem rrpfew_f {w:World} {v cv:Value} {ql:List Chg} {ct:List Row} (hv:Chgs w v ql) (hc:Tab w cv ct) (seq tok at' dg nn:Int) (la sn oo:Bool) (HF:Hid (fewC ql 30=false)) :
  Calls Tryz.prog 9 #[.agg #[.int .i64 seq,v,.bool la,.int .i64 tok,.int .i64 at',.bool sn,.int .i64 dg,cv,.int .i64 nn,.bool oo]] w fun e w' => e=.returned (.bool false)∧Below w.heap.size w w':=by
 obtain⟨qa,qc,rfl,-⟩:=hv.open'
 obtain⟨ta,tc,rfl,-⟩:=hc.open'
 obtain⟨XB,HB⟩:=ent1 w (.cells #[.int .i64 seq,.slice qa ql.length qc,.bool la,.int .i64 tok,.int .i64 at',.bool sn,.int .i64 dg,.slice ta ct.length tc,.int .i64 nn,.bool oo] 35)
 have HV:=hZq ((hv).later HB.out)
 have HC:=hZq ((hc).later HB.out)
 clear hv hc
 go_enter Tryz.func9,Tryz.ntmps9
 go_wp2_with (with_reducible refine ldA aggLink _ rfl rfl (w.heap.size) 0 rfl XB.out [.int .i64 seq,.slice qa ql.length qc,.bool la,.int .i64 tok,.int .i64 at',.bool sn,.int .i64 dg] rfl rfl ?_)
 refine (rlfew_any HV.out la sn seq tok at' dg HF).mono ?_
 rintro e w2 ⟨rfl,b2⟩
 replace XB:=hZq (upQ XB.out b2)
 replace HV:=hZq (HV.out.later b2)
 replace HC:=hZq (HC.out.later b2)
 replace HB:=hZq (below2Z HB.out b2)
 clear b2
 go_wp2_with fail
 go_ret
 exact⟨rfl,HB.out⟩

theorem rrpfew_t {w:World} {v cv:Value} {ql:List Chg} {ct:List Row} (hv:Chgs w v ql) (hc:Tab w cv ct) (seq tok at' dg nn:Int) (la sn oo:Bool) (HF:Hid (fewC ql 30=true)) {r:Bool} (HT:Hid (fewT ct=r)) :
  Calls Tryz.prog 9 #[.agg #[.int .i64 seq,v,.bool la,.int .i64 tok,.int .i64 at',.bool sn,.int .i64 dg,cv,.int .i64 nn,.bool oo]] w fun e w' => e=.returned (.bool r)∧Below w.heap.size w w':=by
 obtain⟨qa,qc,rfl,-⟩:=hv.open'
 obtain⟨ta,tc,rfl,-⟩:=hc.open'
 obtain⟨XB,HB⟩:=ent1 w (.cells #[.int .i64 seq,.slice qa ql.length qc,.bool la,.int .i64 tok,.int .i64 at',.bool sn,.int .i64 dg,.slice ta ct.length tc,.int .i64 nn,.bool oo] 35)
 have HV:=hZq ((hv).later HB.out)
 have HC:=hZq ((hc).later HB.out)
 clear hv hc
 go_enter Tryz.func9,Tryz.ntmps9
 go_wp2_with (with_reducible refine ldA aggLink _ rfl rfl (w.heap.size) 0 rfl XB.out [.int .i64 seq,.slice qa ql.length qc,.bool la,.int .i64 tok,.int .i64 at',.bool sn,.int .i64 dg] rfl rfl ?_)
 refine (rlfew_any HV.out la sn seq tok at' dg HF).mono ?_
 rintro e w2 ⟨rfl,b2⟩
 replace XB:=hZq (upQ XB.out b2)
 replace HV:=hZq (HV.out.later b2)
 replace HC:=hZq (HC.out.later b2)
 replace HB:=hZq (below2Z HB.out b2)
 clear b2
 go_wp2_with (with_reducible refine ldG aggCli _ rfl rfl (w.heap.size) 7 rfl XB.out [.slice ta ct.length tc,.int .i64 nn,.bool oo] rfl rfl ?_)
 refine (clfew_eq HC.out nn oo HT).mono ?_
 rintro e w3 ⟨rfl,b3⟩
 replace XB:=hZq (upQ XB.out b3)
 replace HV:=hZq (HV.out.later b3)
 replace HC:=hZq (HC.out.later b3)
 replace HB:=hZq (below2Z HB.out b3)
 clear b3
 go_wp2_with fail
 go_ret
 exact⟨rfl,HB.out⟩

theorem rrpfew {w:World} {v cv:Value} {ql:List Chg} {ct:List Row} (hv:Chgs w v ql) (hc:Tab w cv ct) (seq tok at' dg nn:Int) (la sn oo:Bool) {r:Bool} (h:Hid ((fewC ql 30 && fewT ct)=r)) :
  Calls Tryz.prog 9 #[.agg #[.int .i64 seq,v,.bool la,.int .i64 tok,.int .i64 at',.bool sn,.int .i64 dg,cv,.int .i64 nn,.bool oo]] w fun e w' => e=.returned (.bool r)∧Below w.heap.size w w':=by
 have h:=h.out
 cases hf:fewC ql 30 with
 | true => rw [hf,Bool.true_and] at h; exact rrpfew_t hv hc seq tok at' dg nn la sn oo (hZq hf) (hZq h)
 | false => rw [hf,Bool.false_and] at h; subst h; exact rrpfew_f hv hc seq tok at' dg nn la sn oo (hZq hf)

theorem few_short {ql:List Chg} {ct:List Row} (h:(fewC ql 30 && fewT ct)=true):ShortC ql∧ql.length≤100∧Short ct∧ct.length≤1000:=by
 simp only [Bool.and_eq_true] at h
 obtain⟨a1,a2⟩:=fewC_get h.1
 obtain⟨b1,b2⟩:=fewT_yes h.2
 exact⟨fun x hx => ⟨by have:=(a2 x hx).1; omega,by have:=(a2 x hx).2; omega⟩,by omega,fun r hr => ⟨by have:=(b2 r hr).1; omega,by have:=(b2 r hr).2; omega⟩,by omega⟩

theorem rpmine {w:World} {v cv:Value} {ql:List Chg} {ct:List Row} (hv:Chgs w v ql) (hc:Tab w cv ct) (seq tok at' dg nn:Int) (la sn oo:Bool) :
  Calls Tryz.prog 12 #[.agg #[.int .i64 seq,v,.bool la,.int .i64 tok,.int .i64 at',.bool sn,.int .i64 dg,cv,.int .i64 nn,.bool oo]] w fun e w' => e=.returned (.agg #[.int .i64 seq,v,.bool la,.int .i64 tok,.int .i64 at',.bool sn,.int .i64 dg,cv,.int .i64 nn,.bool oo])∧Below w.heap.size w w':=by
 obtain⟨qa,qc,rfl,-⟩:=hv.open'
 obtain⟨ta,tc,rfl,-⟩:=hc.open'
 clear hv hc
 obtain⟨XB,RB,HB⟩:=ent2 w (.cells #[.int .i64 seq,.slice qa ql.length qc,.bool la,.int .i64 tok,.int .i64 at',.bool sn,.int .i64 dg,.slice ta ct.length tc,.int .i64 nn,.bool oo] 35) (.cells #[.int .i64 0,.slice none 0 0,.bool false,.int .i64 0,.int .i64 0,.bool false,.int .i64 0,.slice none 0 0,.int .i64 0,.bool false] 41)
 go_enter Tryz.func12,Tryz.ntmps12
 go_wp2_with (first | (with_reducible refine ldA aggLink _ rfl rfl (w.heap.size) 0 rfl XB.out [.int .i64 seq,.slice qa ql.length qc,.bool la,.int .i64 tok,.int .i64 at',.bool sn,.int .i64 dg] rfl rfl ?_) | (with_reducible refine ldA aggCli _ rfl rfl (w.heap.size) 7 rfl XB.out [.slice ta ct.length tc,.int .i64 nn,.bool oo] rfl rfl ?_) | (with_reducible refine stA aggSide _ _ rfl rfl (w.heap.size+1) 0 rfl RB.out [.int .i64 seq,.slice qa ql.length qc,.bool la,.int .i64 tok,.int .i64 at',.bool sn,.int .i64 dg,.slice ta ct.length tc,.int .i64 nn,.bool oo] rfl rfl (Nat.le_of_ble_eq_true rfl) rfl [.int .i64 seq,.slice qa ql.length qc,.bool la,.int .i64 tok,.int .i64 at',.bool sn,.int .i64 dg,.slice ta ct.length tc,.int .i64 nn,.bool oo] rfl ?_))
 intro w3 hst
 have HBz:=hZq (hst.bel HB.out (show w.heap.size≤w.heap.size+1 by omega))
 have XBz:=hZq (hst.keep XB.out (show ¬ w.heap.size=w.heap.size+1 by omega))
 have RBz:=hZq hst.at'
 clear hst HB XB RB
 have HB:=HBz
 have XB:=XBz
 have RB:=RBz
 clear HBz XBz RBz
 go_wp2_with fail
 refine retA aggSide _ (w.heap.size+1) Tryz.results12 rfl (cs:=[.int .i64 seq,.slice qa ql.length qc,.bool la,.int .i64 tok,.int .i64 at',.bool sn,.int .i64 dg,.slice ta ct.length tc,.int .i64 nn,.bool oo]) RB.out rfl rfl ?_
 exact⟨rfl,HB.out⟩

theorem rpsame_yes {w:World} {v cv v2 cv2:Value} {ql:List Chg} {ct:List Row} (hv:Chgs w v ql) (hc:Tab w cv ct) (seq tok at' dg nn:Int) (la sn oo:Bool) (hv2:Chgs w v2 ql) (hc2:Tab w cv2 ct) :
  Calls Tryz.prog 13 #[.agg #[.int .i64 seq,v,.bool la,.int .i64 tok,.int .i64 at',.bool sn,.int .i64 dg,cv,.int .i64 nn,.bool oo],.agg #[.int .i64 seq,v2,.bool la,.int .i64 tok,.int .i64 at',.bool sn,.int .i64 dg,cv2,.int .i64 nn,.bool oo]] w fun e w' => e=.returned (.bool true)∧Below w.heap.size w w':=by
 obtain⟨qa,qc,rfl,-⟩:=hv.open'
 obtain⟨ta,tc,rfl,-⟩:=hc.open'
 obtain⟨ra,rc,rfl,-⟩:=hv2.open'
 obtain⟨ya,yc,rfl,-⟩:=hc2.open'
 obtain⟨XB,YB,HB⟩:=ent2 w (.cells #[.int .i64 seq,.slice qa ql.length qc,.bool la,.int .i64 tok,.int .i64 at',.bool sn,.int .i64 dg,.slice ta ct.length tc,.int .i64 nn,.bool oo] 41) (.cells #[.int .i64 seq,.slice ra ql.length rc,.bool la,.int .i64 tok,.int .i64 at',.bool sn,.int .i64 dg,.slice ya ct.length yc,.int .i64 nn,.bool oo] 35)
 have HV:=hZq ((hv).later HB.out)
 have HC:=hZq ((hc).later HB.out)
 have HV2:=hZq ((hv2).later HB.out)
 have HC2:=hZq ((hc2).later HB.out)
 clear hv hc hv2 hc2
 go_enter Tryz.func13,Tryz.ntmps13
 have HSM:Hid (clSame ⟨ct,nn,oo⟩ ⟨ct,nn,oo⟩=true):=hZq (by unfold clSame; simp [tSame_iff.2])
 go_wp2_with (first | (with_reducible refine ldA aggLink _ rfl rfl (w.heap.size) 0 rfl XB.out [.int .i64 seq,.slice qa ql.length qc,.bool la,.int .i64 tok,.int .i64 at',.bool sn,.int .i64 dg] rfl rfl ?_) | (with_reducible refine ldA aggLink _ rfl rfl (w.heap.size+1) 0 rfl YB.out [.int .i64 seq,.slice ra ql.length rc,.bool la,.int .i64 tok,.int .i64 at',.bool sn,.int .i64 dg] rfl rfl ?_))
 refine (rlsame_yes HV.out HV2.out la sn seq tok at' dg).mono ?_
 rintro e w3 ⟨rfl,b3⟩
 replace XB:=hZq (upQ XB.out b3)
 replace YB:=hZq (upQ YB.out b3)
 replace HV:=hZq (HV.out.later b3)
 replace HC:=hZq (HC.out.later b3)
 replace HV2:=hZq (HV2.out.later b3)
 replace HC2:=hZq (HC2.out.later b3)
 replace HB:=hZq (below2Z HB.out b3)
 clear b3
 go_wp2_with (first | (with_reducible refine ldG aggCli _ rfl rfl (w.heap.size) 7 rfl XB.out [.slice ta ct.length tc,.int .i64 nn,.bool oo] rfl rfl ?_) | (with_reducible refine ldG aggCli _ rfl rfl (w.heap.size+1) 7 rfl YB.out [.slice ya ct.length yc,.int .i64 nn,.bool oo] rfl rfl ?_))
 refine (rclsame_eq HC.out HC2.out nn nn oo oo HSM).mono ?_
 rintro e w4 ⟨rfl,b4⟩
 replace XB:=hZq (upQ XB.out b4)
 replace YB:=hZq (upQ YB.out b4)
 replace HV:=hZq (HV.out.later b4)
 replace HC:=hZq (HC.out.later b4)
 replace HV2:=hZq (HV2.out.later b4)
 replace HC2:=hZq (HC2.out.later b4)
 replace HB:=hZq (below2Z HB.out b4)
 clear b4
 go_wp2_with fail
 go_ret
 exact⟨rfl,HB.out⟩
end
end Go.Proofs.YtmpigdokghngiaaGreat
