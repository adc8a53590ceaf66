/-
 THE PROOF OF RepairReads: for every input the law returns true, and each argument reads behind the call as it read before. No condition.
-/
import Derived.Test.YtmpigdokghngiaaGreatP05
import Derived.Test.YtmpigdokghngiaaGreatP24
import Derived.Test.YtmpigdokghngiaaGreatP20
import Derived.Test.YtmpigdokghngiaaGreatP04
import Derived.Test.YtmpigdokghngiaaGreatRows
import Derived.ProofKit
import Derived.OpenShut
import Derived.ShutString
import Derived.ChangeOld
import Derived.SliceStrings
import Derived.Lib.SmallJoins

set_option maxHeartbeats 12800000
set_option maxRecDepth 100000

section
namespace Go.Proofs.YtmpigdokghngiaaGreat
open Go.RowKit

theorem read_own {f:Frm} (hs:f.sum < 18446744073709551616) (l:Lnk) {t:List UInt8} {g:Nat} (h:frEnc f=(t,g)):t.length≤4294967296∧(g=0→rpRead l t=if f.k=4 then (lnAsk l,0) else (l,3)):=by
 unfold frEnc at h
 split at h
 ·rename_i hm
  obtain⟨rfl,rfl⟩:=Prod.mk.inj h
  refine ⟨by have:=enc_lenP hm; omega,fun _ => ?_⟩
  unfold rpRead
  rw [(frDec_plain hm hs rfl).1]
  rfl
 ·obtain⟨rfl,rfl⟩:=Prod.mk.inj h
  exact⟨by simp,fun h => by cases h⟩

theorem read_bad {l m:Lnk} {s:List UInt8} {e:Nat} (h:rpRead l s=(m,e)) (he:¬ e=0):m=l:=by
 unfold rpRead at h
 split at h
 ·split at h
  ·exact absurd (Prod.mk.inj h).2.symm he
  ·exact (Prod.mk.inj h).1.symm
 ·exact (Prod.mk.inj h).1.symm

theorem rre_out {w:World} {v vt:Value} {ql:List Chg} {k s sh pr si:Int} {on:Bool} {c st:List UInt8} {sum:Nat} {tt:List Row} (hv:Chgs w v ql) (seq tok at' dg:Int) (la sn:Bool) (s0:List UInt8) (hvt:Tab w vt tt) (hM:c.length≤maxLen∧st.length≤maxLen∧sum < 18446744073709551616∧(Lit.int .i64 k).wf=true) (HF:Hid (fewF ⟨k,s,on,c,⟨sh,pr,si,st⟩,sum,tt⟩=false)) :
  Calls Tryz.prog 4 #[.agg #[.int .i64 seq,v,.bool la,.int .i64 tok,.int .i64 at',.bool sn,.int .i64 dg],.string ⟨s0.toArray⟩,.agg #[.int .i64 k,.int .i64 s,.bool on,.string ⟨c.toArray⟩,.int .i64 sh,.int .i64 pr,.int .i64 si,.string ⟨st.toArray⟩,.int .u64 sum,vt]] w fun e w' => e=.returned (.bool true)∧Below w.heap.size w w':=by
 have hm1:=hM.1
 have hm2:=hM.2.1
 obtain⟨qa,qc,rfl,-⟩:=hv.open'
 obtain⟨ga,gc,rfl,-⟩:=hvt.open'
 obtain⟨LB,FB,HB⟩:=ent2 w (.cells #[.int .i64 seq,.slice qa ql.length qc,.bool la,.int .i64 tok,.int .i64 at',.bool sn,.int .i64 dg] 30) (.cells #[.int .i64 k,.int .i64 s,.bool on,.string ⟨c.toArray⟩,.int .i64 sh,.int .i64 pr,.int .i64 si,.string ⟨st.toArray⟩,.int .u64 sum,.slice ga tt.length gc] 56)
 have HV:=hZq ((hv).later HB.out)
 have VT:=hZq ((hvt).later HB.out)
 clear hv hvt
 go_enter Tryz.func4,Tryz.ntmps4
 go_wp2_with (with_reducible refine ldA aggLink _ rfl rfl (w.heap.size) 0 rfl LB.out [.int .i64 seq,.slice qa ql.length qc,.bool la,.int .i64 tok,.int .i64 at',.bool sn,.int .i64 dg] rfl rfl ?_)
 cases hf:fewC ql 30 with
 | false =>
  refine (rlfew_any HV.out la sn seq tok at' dg (hZq hf)).mono ?_
  rintro e w53 ⟨rfl,b53⟩
  replace LB:=hZq (upQ LB.out b53)
  replace FB:=hZq (upQ FB.out b53)
  replace HV:=hZq (HV.out.later b53)
  replace VT:=hZq (VT.out.later b53)
  replace HB:=hZq (below2Z HB.out b53)
  clear b53
  go_wp2_with fail
  refine (live20 _).mono ?_
  rintro e w54 ⟨rfl,b54⟩
  replace HB:=hZq (below2Z HB.out b54)
  clear b54
  go_wp2_with fail
  go_ret
  exact⟨rfl,HB.out⟩
 | true =>
  refine (rlfew_any HV.out la sn seq tok at' dg (hZq hf)).mono ?_
  rintro e w3 ⟨rfl,b3⟩
  replace LB:=hZq (upQ LB.out b3)
  replace FB:=hZq (upQ FB.out b3)
  replace HV:=hZq (HV.out.later b3)
  replace VT:=hZq (VT.out.later b3)
  replace HB:=hZq (below2Z HB.out b3)
  clear b3
  by_cases hl:1500 < s0.length
  ·have tl:decide (1500 < (s0.length:Int))=true:=by rw [decide_eq_true_eq]; omega
   have tl2:decide (1500 < s0.length)=true:=by rw [decide_eq_true_eq]; omega
   go_wp2_with fail
   refine (live20 _).mono ?_
   rintro e w54 ⟨rfl,b54⟩
   replace HB:=hZq (below2Z HB.out b54)
   clear b54
   go_wp2_with fail
   go_ret
   exact⟨rfl,HB.out⟩
  ·have tl:decide (1500 < (s0.length:Int))=false:=by rw [decide_eq_false_iff_not]; omega
   have tl2:decide (1500 < s0.length)=false:=by rw [decide_eq_false_iff_not]; omega
   go_wp2_with (with_reducible refine ldG aggFrame _ rfl rfl (w.heap.size+1) 0 rfl FB.out [.int .i64 k,.int .i64 s,.bool on,.string ⟨c.toArray⟩,.int .i64 sh,.int .i64 pr,.int .i64 si,.string ⟨st.toArray⟩,.int .u64 sum,.slice ga tt.length gc] rfl rfl ?_)
   refine (fewf_eq VT.out k s on c sh pr si st sum hm1 hm2 HF).mono ?_
   rintro e w54 ⟨rfl,b54⟩
   replace LB:=hZq (upQ LB.out b54)
   replace FB:=hZq (upQ FB.out b54)
   replace HV:=hZq (HV.out.later b54)
   replace VT:=hZq (VT.out.later b54)
   replace HB:=hZq (below2Z HB.out b54)
   clear b54
   go_wp2_with fail
   refine (live20 _).mono ?_
   rintro e w55 ⟨rfl,b55⟩
   replace HB:=hZq (below2Z HB.out b55)
   clear b55
   go_wp2_with fail
   go_ret
   exact⟨rfl,HB.out⟩

theorem rre_few {w:World} {v vt:Value} {ql:List Chg} {k s sh pr si:Int} {on:Bool} {c st:List UInt8} {sum:Nat} {tt:List Row} (hv:Chgs w v ql) (seq tok at' dg:Int) (la sn:Bool) (s0:List UInt8) (hvt:Tab w vt tt) (hM:c.length≤maxLen∧st.length≤maxLen∧sum < 18446744073709551616∧(Lit.int .i64 k).wf=true) (HL:Hid (fewC ql 30=false)) :
  Calls Tryz.prog 4 #[.agg #[.int .i64 seq,v,.bool la,.int .i64 tok,.int .i64 at',.bool sn,.int .i64 dg],.string ⟨s0.toArray⟩,.agg #[.int .i64 k,.int .i64 s,.bool on,.string ⟨c.toArray⟩,.int .i64 sh,.int .i64 pr,.int .i64 si,.string ⟨st.toArray⟩,.int .u64 sum,vt]] w fun e w' => e=.returned (.bool true)∧Below w.heap.size w w':=by
 have hm1:=hM.1
 have hm2:=hM.2.1
 obtain⟨qa,qc,rfl,-⟩:=hv.open'
 obtain⟨ga,gc,rfl,-⟩:=hvt.open'
 obtain⟨LB,FB,HB⟩:=ent2 w (.cells #[.int .i64 seq,.slice qa ql.length qc,.bool la,.int .i64 tok,.int .i64 at',.bool sn,.int .i64 dg] 30) (.cells #[.int .i64 k,.int .i64 s,.bool on,.string ⟨c.toArray⟩,.int .i64 sh,.int .i64 pr,.int .i64 si,.string ⟨st.toArray⟩,.int .u64 sum,.slice ga tt.length gc] 56)
 have HV:=hZq ((hv).later HB.out)
 have VT:=hZq ((hvt).later HB.out)
 clear hv hvt
 go_enter Tryz.func4,Tryz.ntmps4
 go_wp2_with (with_reducible refine ldA aggLink _ rfl rfl (w.heap.size) 0 rfl LB.out [.int .i64 seq,.slice qa ql.length qc,.bool la,.int .i64 tok,.int .i64 at',.bool sn,.int .i64 dg] rfl rfl ?_)
 refine (rlfew_any HV.out la sn seq tok at' dg HL).mono ?_
 rintro e w3 ⟨rfl,b3⟩
 replace LB:=hZq (upQ LB.out b3)
 replace FB:=hZq (upQ FB.out b3)
 replace HV:=hZq (HV.out.later b3)
 replace VT:=hZq (VT.out.later b3)
 replace HB:=hZq (below2Z HB.out b3)
 clear b3
 go_wp2_with fail
 refine (live20 _).mono ?_
 rintro e w4 ⟨rfl,b4⟩
 replace HB:=hZq (below2Z HB.out b4)
 clear b4
 go_wp2_with fail
 go_ret
 exact⟨rfl,HB.out⟩

theorem rre_long {w:World} {v vt:Value} {ql:List Chg} {k s sh pr si:Int} {on:Bool} {c st:List UInt8} {sum:Nat} {tt:List Row} (hv:Chgs w v ql) (seq tok at' dg:Int) (la sn:Bool) (s0:List UInt8) (hvt:Tab w vt tt) (hM:c.length≤maxLen∧st.length≤maxLen∧sum < 18446744073709551616∧(Lit.int .i64 k).wf=true) (HL:Hid (fewC ql 30=true)) (hl:1500 < s0.length) :
  Calls Tryz.prog 4 #[.agg #[.int .i64 seq,v,.bool la,.int .i64 tok,.int .i64 at',.bool sn,.int .i64 dg],.string ⟨s0.toArray⟩,.agg #[.int .i64 k,.int .i64 s,.bool on,.string ⟨c.toArray⟩,.int .i64 sh,.int .i64 pr,.int .i64 si,.string ⟨st.toArray⟩,.int .u64 sum,vt]] w fun e w' => e=.returned (.bool true)∧Below w.heap.size w w':=by
 have tl:decide (1500 < (s0.length:Int))=true:=by rw [decide_eq_true_eq]; omega
 have tl2:decide (1500 < s0.length)=true:=by rw [decide_eq_true_eq]; omega
 have hm1:=hM.1
 have hm2:=hM.2.1
 obtain⟨qa,qc,rfl,-⟩:=hv.open'
 obtain⟨ga,gc,rfl,-⟩:=hvt.open'
 obtain⟨LB,FB,HB⟩:=ent2 w (.cells #[.int .i64 seq,.slice qa ql.length qc,.bool la,.int .i64 tok,.int .i64 at',.bool sn,.int .i64 dg] 30) (.cells #[.int .i64 k,.int .i64 s,.bool on,.string ⟨c.toArray⟩,.int .i64 sh,.int .i64 pr,.int .i64 si,.string ⟨st.toArray⟩,.int .u64 sum,.slice ga tt.length gc] 56)
 have HV:=hZq ((hv).later HB.out)
 have VT:=hZq ((hvt).later HB.out)
 clear hv hvt
 go_enter Tryz.func4,Tryz.ntmps4
 go_wp2_with (with_reducible refine ldA aggLink _ rfl rfl (w.heap.size) 0 rfl LB.out [.int .i64 seq,.slice qa ql.length qc,.bool la,.int .i64 tok,.int .i64 at',.bool sn,.int .i64 dg] rfl rfl ?_)
 refine (rlfew_any HV.out la sn seq tok at' dg HL).mono ?_
 rintro e w3 ⟨rfl,b3⟩
 replace LB:=hZq (upQ LB.out b3)
 replace FB:=hZq (upQ FB.out b3)
 replace HV:=hZq (HV.out.later b3)
 replace VT:=hZq (VT.out.later b3)
 replace HB:=hZq (below2Z HB.out b3)
 clear b3
 go_wp2_with fail
 refine (live20 _).mono ?_
 rintro e w4 ⟨rfl,b4⟩
 replace HB:=hZq (below2Z HB.out b4)
 clear b4
 go_wp2_with fail
 go_ret
 exact⟨rfl,HB.out⟩

theorem rre_in {w:World} {v vt:Value} {ql:List Chg} {k s sh pr si:Int} {on:Bool} {c st:List UInt8} {sum:Nat} {tt:List Row} (hv:Chgs w v ql) (seq tok at' dg:Int) (la sn:Bool) (s0:List UInt8) (hvt:Tab w vt tt) (hM:c.length≤maxLen∧st.length≤maxLen∧sum < 18446744073709551616∧(Lit.int .i64 k).wf=true) (HL:Hid (fewC ql 30=true)) (hl:s0.length≤1500) (HF:Hid (fewF ⟨k,s,on,c,⟨sh,pr,si,st⟩,sum,tt⟩=true)) {xs xt xa xd:Int} {xq:List Chg} {xl xn:Bool} {er:Nat} (HR1:Hid (rpRead ⟨seq,⟨ql,la⟩,⟨tok,at'⟩,sn,dg⟩ s0=(⟨xs,⟨xq,xl⟩,⟨xt,xa⟩,xn,xd⟩,er))) {t:List UInt8} {g:Nat} (HE:Hid (frEnc ⟨k,s,on,c,⟨sh,pr,si,st⟩,sum,tt⟩=(t,g))) {ys yt ya yd:Int} {yq:List Chg} {yl yn:Bool} {eh:Nat} (HR2:Hid (rpRead ⟨seq,⟨ql,la⟩,⟨tok,at'⟩,sn,dg⟩ t=(⟨ys,⟨yq,yl⟩,⟨yt,ya⟩,yn,yd⟩,eh))) :
  Calls Tryz.prog 4 #[.agg #[.int .i64 seq,v,.bool la,.int .i64 tok,.int .i64 at',.bool sn,.int .i64 dg],.string ⟨s0.toArray⟩,.agg #[.int .i64 k,.int .i64 s,.bool on,.string ⟨c.toArray⟩,.int .i64 sh,.int .i64 pr,.int .i64 si,.string ⟨st.toArray⟩,.int .u64 sum,vt]] w fun e w' => e=.returned (.bool true)∧Below w.heap.size w w':=by
 have hfg:=fewF_get HF.out
 have HSH:=hZq hfg.1
 have hc:=hfg.2.1
 have hst:=hfg.2.2
 simp only at hc hst
 clear hfg
 have hsu:=hM.2.2.1
 have hl0:s0.length≤4294967296:=by omega
 have hown:=read_own (f:=⟨k,s,on,c,⟨sh,pr,si,st⟩,sum,tt⟩) hsu ⟨seq,⟨ql,la⟩,⟨tok,at'⟩,sn,dg⟩ HE.out
 have hlt:=hown.1
 have HOWN:=hZq hown.2
 clear hown
 have HBAD:Hid (¬ er=0→(⟨xs,⟨xq,xl⟩,⟨xt,xa⟩,xn,xd⟩ : Lnk)=⟨seq,⟨ql,la⟩,⟨tok,at'⟩,sn,dg⟩):=hZq (read_bad HR1.out)
 have tl:decide (1500 < (s0.length:Int))=false:=by rw [decide_eq_false_iff_not]; omega
 have tl2:decide (1500 < s0.length)=false:=by rw [decide_eq_false_iff_not]; omega
 have hm1:=hM.1
 have hm2:=hM.2.1
 obtain⟨qa,qc,rfl,-⟩:=hv.open'
 obtain⟨ga,gc,rfl,-⟩:=hvt.open'
 obtain⟨LB,FB,HB⟩:=ent2 w (.cells #[.int .i64 seq,.slice qa ql.length qc,.bool la,.int .i64 tok,.int .i64 at',.bool sn,.int .i64 dg] 30) (.cells #[.int .i64 k,.int .i64 s,.bool on,.string ⟨c.toArray⟩,.int .i64 sh,.int .i64 pr,.int .i64 si,.string ⟨st.toArray⟩,.int .u64 sum,.slice ga tt.length gc] 56)
 have HV:=hZq ((hv).later HB.out)
 have VT:=hZq ((hvt).later HB.out)
 clear hv hvt
 go_enter Tryz.func4,Tryz.ntmps4
 go_wp2_with (with_reducible refine ldA aggLink _ rfl rfl (w.heap.size) 0 rfl LB.out [.int .i64 seq,.slice qa ql.length qc,.bool la,.int .i64 tok,.int .i64 at',.bool sn,.int .i64 dg] rfl rfl ?_)
 refine (rlfew_any HV.out la sn seq tok at' dg HL).mono ?_
 rintro e w3 ⟨rfl,b3⟩
 replace LB:=hZq (upQ LB.out b3)
 replace FB:=hZq (upQ FB.out b3)
 replace HV:=hZq (HV.out.later b3)
 replace VT:=hZq (VT.out.later b3)
 replace HB:=hZq (below2Z HB.out b3)
 clear b3
 go_wp2_with (with_reducible refine ldG aggFrame _ rfl rfl (w.heap.size+1) 0 rfl FB.out [.int .i64 k,.int .i64 s,.bool on,.string ⟨c.toArray⟩,.int .i64 sh,.int .i64 pr,.int .i64 si,.string ⟨st.toArray⟩,.int .u64 sum,.slice ga tt.length gc] rfl rfl ?_)
 refine (fewf_eq VT.out k s on c sh pr si st sum hm1 hm2 HF).mono ?_
 rintro e w4 ⟨rfl,b4⟩
 replace LB:=hZq (upQ LB.out b4)
 replace FB:=hZq (upQ FB.out b4)
 replace HV:=hZq (HV.out.later b4)
 replace VT:=hZq (VT.out.later b4)
 replace HB:=hZq (below2Z HB.out b4)
 clear b4
 go_wp2_with (with_reducible refine ldA aggLink _ rfl rfl (w.heap.size) 0 rfl LB.out [.int .i64 seq,.slice qa ql.length qc,.bool la,.int .i64 tok,.int .i64 at',.bool sn,.int .i64 dg] rfl rfl ?_)
 refine (rpread_any HV.out s0 hl0 HR1).mono ?_
 rintro e w5 ⟨u,rfl,hu,b5⟩
 replace LB:=hZq (upQ LB.out b5)
 replace FB:=hZq (upQ FB.out b5)
 replace HV:=hZq (HV.out.later b5)
 replace VT:=hZq (VT.out.later b5)
 replace HB:=hZq (below2Z HB.out b5)
 obtain⟨aa,ac,rfl,hU⟩:=rd_chgs hu HV.out
 have HA:=hZq hU
 clear hu hU
 clear b5
 have hsLB:=(Array.getElem?_eq_some_iff.1 LB.out).1
 have hsFB:=(Array.getElem?_eq_some_iff.1 FB.out).1
 have b6:=bl_newZ w5 (.cells #[.int .i64 0,.slice none 0 0,.bool false,.int .i64 0,.int .i64 0,.bool false,.int .i64 0] 30)
 have MA:=newQ w5 (.cells #[.int .i64 0,.slice none 0 0,.bool false,.int .i64 0,.int .i64 0,.bool false,.int .i64 0] 30)
 have hMA:w.heap.size≤w5.heap.size:=HB.out.size
 replace LB:=hZq (upQ LB.out b6)
 replace FB:=hZq (upQ FB.out b6)
 replace HV:=hZq (HV.out.later b6)
 replace VT:=hZq (VT.out.later b6)
 replace HA:=hZq (HA.out.later b6)
 replace HB:=hZq (below2Z HB.out b6)
 clear b6
 replace MA:=hZq MA
 go_wp2_with (with_reducible refine stA aggLink _ _ rfl rfl (w5.heap.size) 0 rfl MA.out [.int .i64 xs,.slice aa xq.length ac,.bool xl,.int .i64 xt,.int .i64 xa,.bool xn,.int .i64 xd] rfl rfl (Nat.le_of_ble_eq_true rfl) rfl [.int .i64 xs,.slice aa xq.length ac,.bool xl,.int .i64 xt,.int .i64 xa,.bool xn,.int .i64 xd] rfl ?_)
 intro w7 hst
 have HBz:=hZq (hst.bel HB.out (show w.heap.size≤w5.heap.size by omega))
 have LBz:=hZq (hst.keep LB.out (show ¬ w.heap.size=w5.heap.size by omega))
 have FBz:=hZq (hst.keep FB.out (show ¬ w.heap.size+1=w5.heap.size by omega))
 have MAz:=hZq hst.at'
 have HVz:=hZq (Chgs.sta HV.out hst MA.out rfl)
 have VTz:=hZq (Tab.sta VT.out hst MA.out rfl)
 have HAz:=hZq (Chgs.sta HA.out hst MA.out rfl)
 clear hst HB LB FB MA HV VT HA
 have HB:=HBz
 have LB:=LBz
 have FB:=FBz
 have MA:=MAz
 have HV:=HVz
 have VT:=VTz
 have HA:=HAz
 clear HBz LBz FBz MAz HVz VTz HAz
 generalize w5.heap.size=BMA at MA hMA hsLB hsFB ⊢
 have dMALB:¬ w.heap.size=BMA:=by omega
 have dMAFB:¬ w.heap.size+1=BMA:=by omega
 have eMALB:¬ BMA=w.heap.size:=by omega
 have eMAFB:¬ BMA=w.heap.size+1:=by omega
 clear hsLB hsFB
 go_wp2_with (with_reducible refine ldA aggLink _ rfl rfl (w.heap.size) 0 rfl LB.out [.int .i64 seq,.slice qa ql.length qc,.bool la,.int .i64 tok,.int .i64 at',.bool sn,.int .i64 dg] rfl rfl ?_)
 refine (rrpread_any HV.out s0 hl0 HR1).mono ?_
 rintro e w8 ⟨u,rfl,hu,b8⟩
 replace LB:=hZq (upQ LB.out b8)
 replace FB:=hZq (upQ FB.out b8)
 replace MA:=hZq (upQ MA.out b8)
 replace HV:=hZq (HV.out.later b8)
 replace VT:=hZq (VT.out.later b8)
 replace HA:=hZq (HA.out.later b8)
 replace HB:=hZq (below2Z HB.out b8)
 obtain⟨ba,bc,rfl,hU⟩:=rd_chgs hu HV.out
 have HC:=hZq hU
 clear hu hU
 clear b8
 have hsLB:=(Array.getElem?_eq_some_iff.1 LB.out).1
 have hsFB:=(Array.getElem?_eq_some_iff.1 FB.out).1
 have hsMA:=(Array.getElem?_eq_some_iff.1 MA.out).1
 have b9:=bl_newZ w8 (.cells #[.int .i64 0,.slice none 0 0,.bool false,.int .i64 0,.int .i64 0,.bool false,.int .i64 0] 30)
 have MB:=newQ w8 (.cells #[.int .i64 0,.slice none 0 0,.bool false,.int .i64 0,.int .i64 0,.bool false,.int .i64 0] 30)
 have hMB:w.heap.size≤w8.heap.size:=HB.out.size
 replace LB:=hZq (upQ LB.out b9)
 replace FB:=hZq (upQ FB.out b9)
 replace MA:=hZq (upQ MA.out b9)
 replace HV:=hZq (HV.out.later b9)
 replace VT:=hZq (VT.out.later b9)
 replace HA:=hZq (HA.out.later b9)
 replace HC:=hZq (HC.out.later b9)
 replace HB:=hZq (below2Z HB.out b9)
 clear b9
 replace MB:=hZq MB
 go_wp2_with (with_reducible refine stA aggLink _ _ rfl rfl (w8.heap.size) 0 rfl MB.out [.int .i64 xs,.slice ba xq.length bc,.bool xl,.int .i64 xt,.int .i64 xa,.bool xn,.int .i64 xd] rfl rfl (Nat.le_of_ble_eq_true rfl) rfl [.int .i64 xs,.slice ba xq.length bc,.bool xl,.int .i64 xt,.int .i64 xa,.bool xn,.int .i64 xd] rfl ?_)
 intro w10 hst
 have HBz:=hZq (hst.bel HB.out (show w.heap.size≤w8.heap.size by omega))
 have LBz:=hZq (hst.keep LB.out (show ¬ w.heap.size=w8.heap.size by omega))
 have FBz:=hZq (hst.keep FB.out (show ¬ w.heap.size+1=w8.heap.size by omega))
 have MAz:=hZq (hst.keep MA.out (show ¬ BMA=w8.heap.size by omega))
 have MBz:=hZq hst.at'
 have HVz:=hZq (Chgs.sta HV.out hst MB.out rfl)
 have VTz:=hZq (Tab.sta VT.out hst MB.out rfl)
 have HAz:=hZq (Chgs.sta HA.out hst MB.out rfl)
 have HCz:=hZq (Chgs.sta HC.out hst MB.out rfl)
 clear hst HB LB FB MA MB HV VT HA HC
 have HB:=HBz
 have LB:=LBz
 have FB:=FBz
 have MA:=MAz
 have MB:=MBz
 have HV:=HVz
 have VT:=VTz
 have HA:=HAz
 have HC:=HCz
 clear HBz LBz FBz MAz MBz HVz VTz HAz HCz
 generalize w8.heap.size=BMB at MB hMB hsLB hsFB hsMA ⊢
 have dMBLB:¬ w.heap.size=BMB:=by omega
 have dMBFB:¬ w.heap.size+1=BMB:=by omega
 have dMBMA:¬ BMA=BMB:=by omega
 have eMBLB:¬ BMB=w.heap.size:=by omega
 have eMBFB:¬ BMB=w.heap.size+1:=by omega
 have eMBMA:¬ BMB=BMA:=by omega
 clear hsLB hsFB hsMA
 go_wp2_with (with_reducible refine ldA aggFrame _ rfl rfl (w.heap.size+1) 0 rfl FB.out [.int .i64 k,.int .i64 s,.bool on,.string ⟨c.toArray⟩,.int .i64 sh,.int .i64 pr,.int .i64 si,.string ⟨st.toArray⟩,.int .u64 sum,.slice ga tt.length gc] rfl rfl ?_)
 refine (rfrenc_any VT.out HSH.out hc hst hsu HE).mono ?_
 rintro e w11 ⟨rfl,b11⟩
 replace LB:=hZq (upQ LB.out b11)
 replace FB:=hZq (upQ FB.out b11)
 replace MA:=hZq (upQ MA.out b11)
 replace MB:=hZq (upQ MB.out b11)
 replace HV:=hZq (HV.out.later b11)
 replace VT:=hZq (VT.out.later b11)
 replace HA:=hZq (HA.out.later b11)
 replace HC:=hZq (HC.out.later b11)
 replace HB:=hZq (below2Z HB.out b11)
 clear b11
 go_wp2_with (with_reducible refine ldA aggLink _ rfl rfl (w.heap.size) 0 rfl LB.out [.int .i64 seq,.slice qa ql.length qc,.bool la,.int .i64 tok,.int .i64 at',.bool sn,.int .i64 dg] rfl rfl ?_)
 refine (rpread_any HV.out t hlt HR2).mono ?_
 rintro e w12 ⟨u,rfl,hu,b12⟩
 replace LB:=hZq (upQ LB.out b12)
 replace FB:=hZq (upQ FB.out b12)
 replace MA:=hZq (upQ MA.out b12)
 replace MB:=hZq (upQ MB.out b12)
 replace HV:=hZq (HV.out.later b12)
 replace VT:=hZq (VT.out.later b12)
 replace HA:=hZq (HA.out.later b12)
 replace HC:=hZq (HC.out.later b12)
 replace HB:=hZq (below2Z HB.out b12)
 obtain⟨ca,cc,rfl,hU⟩:=rd_chgs hu HV.out
 have HD:=hZq hU
 clear hu hU
 clear b12
 have hsLB:=(Array.getElem?_eq_some_iff.1 LB.out).1
 have hsFB:=(Array.getElem?_eq_some_iff.1 FB.out).1
 have hsMA:=(Array.getElem?_eq_some_iff.1 MA.out).1
 have hsMB:=(Array.getElem?_eq_some_iff.1 MB.out).1
 have b13:=bl_newZ w12 (.cells #[.int .i64 0,.slice none 0 0,.bool false,.int .i64 0,.int .i64 0,.bool false,.int .i64 0] 30)
 have MC:=newQ w12 (.cells #[.int .i64 0,.slice none 0 0,.bool false,.int .i64 0,.int .i64 0,.bool false,.int .i64 0] 30)
 have hMC:w.heap.size≤w12.heap.size:=HB.out.size
 replace LB:=hZq (upQ LB.out b13)
 replace FB:=hZq (upQ FB.out b13)
 replace MA:=hZq (upQ MA.out b13)
 replace MB:=hZq (upQ MB.out b13)
 replace HV:=hZq (HV.out.later b13)
 replace VT:=hZq (VT.out.later b13)
 replace HA:=hZq (HA.out.later b13)
 replace HC:=hZq (HC.out.later b13)
 replace HD:=hZq (HD.out.later b13)
 replace HB:=hZq (below2Z HB.out b13)
 clear b13
 replace MC:=hZq MC
 go_wp2_with (with_reducible refine stA aggLink _ _ rfl rfl (w12.heap.size) 0 rfl MC.out [.int .i64 ys,.slice ca yq.length cc,.bool yl,.int .i64 yt,.int .i64 ya,.bool yn,.int .i64 yd] rfl rfl (Nat.le_of_ble_eq_true rfl) rfl [.int .i64 ys,.slice ca yq.length cc,.bool yl,.int .i64 yt,.int .i64 ya,.bool yn,.int .i64 yd] rfl ?_)
 intro w14 hst
 have HBz:=hZq (hst.bel HB.out (show w.heap.size≤w12.heap.size by omega))
 have LBz:=hZq (hst.keep LB.out (show ¬ w.heap.size=w12.heap.size by omega))
 have FBz:=hZq (hst.keep FB.out (show ¬ w.heap.size+1=w12.heap.size by omega))
 have MAz:=hZq (hst.keep MA.out (show ¬ BMA=w12.heap.size by omega))
 have MBz:=hZq (hst.keep MB.out (show ¬ BMB=w12.heap.size by omega))
 have MCz:=hZq hst.at'
 have HVz:=hZq (Chgs.sta HV.out hst MC.out rfl)
 have VTz:=hZq (Tab.sta VT.out hst MC.out rfl)
 have HAz:=hZq (Chgs.sta HA.out hst MC.out rfl)
 have HCz:=hZq (Chgs.sta HC.out hst MC.out rfl)
 have HDz:=hZq (Chgs.sta HD.out hst MC.out rfl)
 clear hst HB LB FB MA MB MC HV VT HA HC HD
 have HB:=HBz
 have LB:=LBz
 have FB:=FBz
 have MA:=MAz
 have MB:=MBz
 have MC:=MCz
 have HV:=HVz
 have VT:=VTz
 have HA:=HAz
 have HC:=HCz
 have HD:=HDz
 clear HBz LBz FBz MAz MBz MCz HVz VTz HAz HCz HDz
 generalize w12.heap.size=BMC at MC hMC hsLB hsFB hsMA hsMB ⊢
 have dMCLB:¬ w.heap.size=BMC:=by omega
 have dMCFB:¬ w.heap.size+1=BMC:=by omega
 have dMCMA:¬ BMA=BMC:=by omega
 have dMCMB:¬ BMB=BMC:=by omega
 have eMCLB:¬ BMC=w.heap.size:=by omega
 have eMCFB:¬ BMC=w.heap.size+1:=by omega
 have eMCMA:¬ BMC=BMA:=by omega
 have eMCMB:¬ BMC=BMB:=by omega
 clear hsLB hsFB hsMA hsMB
 go_wp2_with (first | (with_reducible refine ldA aggLink _ rfl rfl (BMA) 0 rfl MA.out [.int .i64 xs,.slice aa xq.length ac,.bool xl,.int .i64 xt,.int .i64 xa,.bool xn,.int .i64 xd] rfl rfl ?_) | (with_reducible refine ldA aggLink _ rfl rfl (BMB) 0 rfl MB.out [.int .i64 xs,.slice ba xq.length bc,.bool xl,.int .i64 xt,.int .i64 xa,.bool xn,.int .i64 xd] rfl rfl ?_))
 refine (rlsame_yes HA.out HC.out xl xn xs xt xa xd).mono ?_
 rintro e w15 ⟨rfl,b15⟩
 replace LB:=hZq (upQ LB.out b15)
 replace FB:=hZq (upQ FB.out b15)
 replace MA:=hZq (upQ MA.out b15)
 replace MB:=hZq (upQ MB.out b15)
 replace MC:=hZq (upQ MC.out b15)
 replace HV:=hZq (HV.out.later b15)
 replace VT:=hZq (VT.out.later b15)
 replace HA:=hZq (HA.out.later b15)
 replace HC:=hZq (HC.out.later b15)
 replace HD:=hZq (HD.out.later b15)
 replace HB:=hZq (below2Z HB.out b15)
 clear b15
 have gne:((er:Int) != (er:Int))=false:=bne_self_eq_false _
 by_cases her:er=0
 ·subst her
  by_cases hg:g=0
  ·have tg:((g:Int) == 0)=true:=by rw [beq_iff_eq]; omega
   by_cases hk:k=4
   ·have hx:=HOWN.out hg
    rw [if_pos hk,HR2.out] at hx
    obtain⟨hx1,rfl⟩:=Prod.mk.inj hx
    obtain⟨rfl,h2,h3,rfl,rfl⟩:=Lnk.mk.inj (show (⟨ys,⟨yq,yl⟩,⟨yt,ya⟩,yn,yd⟩ : Lnk)=lnAsk ⟨seq,⟨ql,la⟩,⟨tok,at'⟩,sn,dg⟩ from hx1)
    obtain⟨rfl,rfl⟩:=Que.mk.inj h2
    obtain⟨rfl,rfl⟩:=Bkt.mk.inj h3
    clear hx hx1 h2 h3
    have tk:((k:Int) == 4)=true:=by rw [beq_iff_eq]; exact hk
    have FBk0:=ckZ FB.out 0 _ rfl
    have MCk0:=ckZ MC.out 0 _ rfl
    have MCk1:=ckZ MC.out 1 _ rfl
    have MCk5:=ckZ MC.out 5 _ rfl
    have LBk0:=ckZ LB.out 0 _ rfl
    go_wp2_with fail
    clear FBk0 MCk0 MCk1 MCk5 LBk0
    refine (live20 _).mono ?_
    rintro e w166 ⟨rfl,b166⟩
    replace HB:=hZq (below2Z HB.out b166)
    clear b166
    go_wp2_with fail
    go_ret
    exact⟨rfl,HB.out⟩
   ·have hx:=HOWN.out hg
    rw [if_neg hk,HR2.out] at hx
    obtain⟨hx1,rfl⟩:=Prod.mk.inj hx
    obtain⟨rfl,h2,h3,rfl,rfl⟩:=Lnk.mk.inj (show (⟨ys,⟨yq,yl⟩,⟨yt,ya⟩,yn,yd⟩ : Lnk)=⟨seq,⟨ql,la⟩,⟨tok,at'⟩,sn,dg⟩ from hx1)
    obtain⟨rfl,rfl⟩:=Que.mk.inj h2
    obtain⟨rfl,rfl⟩:=Bkt.mk.inj h3
    clear hx hx1 h2 h3
    have tk:((k:Int) == 4)=false:=by rw [beq_eq_false_iff_ne]; exact hk
    have FBk0:=ckZ FB.out 0 _ rfl
    go_wp2_with (first | (with_reducible refine ldG aggLink _ rfl rfl (BMC) 0 rfl MC.out [.int .i64 ys,.slice ca yq.length cc,.bool yl,.int .i64 yt,.int .i64 ya,.bool yn,.int .i64 yd] rfl rfl ?_) | (with_reducible refine ldG aggLink _ rfl rfl (w.heap.size) 0 rfl LB.out [.int .i64 ys,.slice qa yq.length qc,.bool yl,.int .i64 yt,.int .i64 ya,.bool yn,.int .i64 yd] rfl rfl ?_))
    clear FBk0
    refine (rlsame_yes HD.out HV.out yl yn ys yt ya yd).mono ?_
    rintro e w166 ⟨rfl,b166⟩
    replace LB:=hZq (upQ LB.out b166)
    replace FB:=hZq (upQ FB.out b166)
    replace MA:=hZq (upQ MA.out b166)
    replace MB:=hZq (upQ MB.out b166)
    replace MC:=hZq (upQ MC.out b166)
    replace HV:=hZq (HV.out.later b166)
    replace VT:=hZq (VT.out.later b166)
    replace HA:=hZq (HA.out.later b166)
    replace HC:=hZq (HC.out.later b166)
    replace HD:=hZq (HD.out.later b166)
    replace HB:=hZq (below2Z HB.out b166)
    clear b166
    go_wp2_with fail
    refine (live20 _).mono ?_
    rintro e w167 ⟨rfl,b167⟩
    replace HB:=hZq (below2Z HB.out b167)
    clear b167
    go_wp2_with fail
    go_ret
    exact⟨rfl,HB.out⟩
  ·have tg:((g:Int) == 0)=false:=by rw [beq_eq_false_iff_ne]; omega
   go_wp2_with fail
   refine (live20 _).mono ?_
   rintro e w116 ⟨rfl,b116⟩
   replace HB:=hZq (below2Z HB.out b116)
   clear b116
   go_wp2_with fail
   go_ret
   exact⟨rfl,HB.out⟩
 ·have te:((er:Int) != 0)=true:=by rw [bne_iff_ne]; omega
  have hx1:=HBAD.out her
  obtain⟨rfl,h2,h3,rfl,rfl⟩:=Lnk.mk.inj hx1
  obtain⟨rfl,rfl⟩:=Que.mk.inj h2
  obtain⟨rfl,rfl⟩:=Bkt.mk.inj h3
  clear hx1 h2 h3 HBAD
  go_wp2_with (first | (with_reducible refine ldG aggLink _ rfl rfl (BMA) 0 rfl MA.out [.int .i64 xs,.slice aa xq.length ac,.bool xl,.int .i64 xt,.int .i64 xa,.bool xn,.int .i64 xd] rfl rfl ?_) | (with_reducible refine ldG aggLink _ rfl rfl (w.heap.size) 0 rfl LB.out [.int .i64 xs,.slice qa xq.length qc,.bool xl,.int .i64 xt,.int .i64 xa,.bool xn,.int .i64 xd] rfl rfl ?_))
  refine (rlsame_yes HA.out HV.out xl xn xs xt xa xd).mono ?_
  rintro e w66 ⟨rfl,b66⟩
  replace LB:=hZq (upQ LB.out b66)
  replace FB:=hZq (upQ FB.out b66)
  replace MA:=hZq (upQ MA.out b66)
  replace MB:=hZq (upQ MB.out b66)
  replace MC:=hZq (upQ MC.out b66)
  replace HV:=hZq (HV.out.later b66)
  replace VT:=hZq (VT.out.later b66)
  replace HA:=hZq (HA.out.later b66)
  replace HC:=hZq (HC.out.later b66)
  replace HD:=hZq (HD.out.later b66)
  replace HB:=hZq (below2Z HB.out b66)
  clear b66
  by_cases hg:g=0
  ·have tg:((g:Int) == 0)=true:=by rw [beq_iff_eq]; omega
   by_cases hk:k=4
   ·have hx:=HOWN.out hg
    rw [if_pos hk,HR2.out] at hx
    obtain⟨hx1,rfl⟩:=Prod.mk.inj hx
    obtain⟨rfl,h2,h3,rfl,rfl⟩:=Lnk.mk.inj (show (⟨ys,⟨yq,yl⟩,⟨yt,ya⟩,yn,yd⟩ : Lnk)=lnAsk ⟨xs,⟨xq,xl⟩,⟨xt,xa⟩,xn,xd⟩ from hx1)
    obtain⟨rfl,rfl⟩:=Que.mk.inj h2
    obtain⟨rfl,rfl⟩:=Bkt.mk.inj h3
    clear hx hx1 h2 h3
    have tk:((k:Int) == 4)=true:=by rw [beq_iff_eq]; exact hk
    have FBk0:=ckZ FB.out 0 _ rfl
    have MCk0:=ckZ MC.out 0 _ rfl
    have MCk1:=ckZ MC.out 1 _ rfl
    have MCk5:=ckZ MC.out 5 _ rfl
    have LBk0:=ckZ LB.out 0 _ rfl
    go_wp2_with fail
    clear FBk0 MCk0 MCk1 MCk5 LBk0
    refine (live20 _).mono ?_
    rintro e w167 ⟨rfl,b167⟩
    replace HB:=hZq (below2Z HB.out b167)
    clear b167
    go_wp2_with fail
    go_ret
    exact⟨rfl,HB.out⟩
   ·have hx:=HOWN.out hg
    rw [if_neg hk,HR2.out] at hx
    obtain⟨hx1,rfl⟩:=Prod.mk.inj hx
    obtain⟨rfl,h2,h3,rfl,rfl⟩:=Lnk.mk.inj (show (⟨ys,⟨yq,yl⟩,⟨yt,ya⟩,yn,yd⟩ : Lnk)=⟨xs,⟨xq,xl⟩,⟨xt,xa⟩,xn,xd⟩ from hx1)
    obtain⟨rfl,rfl⟩:=Que.mk.inj h2
    obtain⟨rfl,rfl⟩:=Bkt.mk.inj h3
    clear hx hx1 h2 h3
    have tk:((k:Int) == 4)=false:=by rw [beq_eq_false_iff_ne]; exact hk
    have FBk0:=ckZ FB.out 0 _ rfl
    go_wp2_with (first | (with_reducible refine ldG aggLink _ rfl rfl (BMC) 0 rfl MC.out [.int .i64 ys,.slice ca yq.length cc,.bool yl,.int .i64 yt,.int .i64 ya,.bool yn,.int .i64 yd] rfl rfl ?_) | (with_reducible refine ldG aggLink _ rfl rfl (w.heap.size) 0 rfl LB.out [.int .i64 ys,.slice qa yq.length qc,.bool yl,.int .i64 yt,.int .i64 ya,.bool yn,.int .i64 yd] rfl rfl ?_))
    clear FBk0
    refine (rlsame_yes HD.out HV.out yl yn ys yt ya yd).mono ?_
    rintro e w167 ⟨rfl,b167⟩
    replace LB:=hZq (upQ LB.out b167)
    replace FB:=hZq (upQ FB.out b167)
    replace MA:=hZq (upQ MA.out b167)
    replace MB:=hZq (upQ MB.out b167)
    replace MC:=hZq (upQ MC.out b167)
    replace HV:=hZq (HV.out.later b167)
    replace VT:=hZq (VT.out.later b167)
    replace HA:=hZq (HA.out.later b167)
    replace HC:=hZq (HC.out.later b167)
    replace HD:=hZq (HD.out.later b167)
    replace HB:=hZq (below2Z HB.out b167)
    clear b167
    go_wp2_with fail
    refine (live20 _).mono ?_
    rintro e w168 ⟨rfl,b168⟩
    replace HB:=hZq (below2Z HB.out b168)
    clear b168
    go_wp2_with fail
    go_ret
    exact⟨rfl,HB.out⟩
  ·have tg:((g:Int) == 0)=false:=by rw [beq_eq_false_iff_ne]; omega
   go_wp2_with fail
   refine (live20 _).mono ?_
   rintro e w117 ⟨rfl,b117⟩
   replace HB:=hZq (below2Z HB.out b117)
   clear b117
   go_wp2_with fail
   go_ret
   exact⟨rfl,HB.out⟩

theorem walkRepairReads {w:World} (seq:Int) (v:Value) (la:Bool) (tok at':Int) (sn:Bool) (dg:Int) (_:(Lit.int .i64 seq).wf=true) (hq:∃ t:List Chg,Chgs w v t) (_:(Lit.int .i64 tok).wf=true) (_:(Lit.int .i64 at').wf=true) (_:(Lit.int .i64 dg).wf=true) (s0:List UInt8) (_:s0.length≤maxLen) {vt:Value} {k s sh pr si:Int} {on:Bool} {c st:List UInt8} {sum:Nat} {tt:List Row} (hvt:Tab w vt tt) (hM:c.length≤maxLen∧st.length≤maxLen∧sum < 18446744073709551616∧(Lit.int .i64 k).wf=true) :
  Calls Tryz.prog 4 #[.agg #[.int .i64 seq,v,.bool la,.int .i64 tok,.int .i64 at',.bool sn,.int .i64 dg],.string ⟨s0.toArray⟩,.agg #[.int .i64 k,.int .i64 s,.bool on,.string ⟨c.toArray⟩,.int .i64 sh,.int .i64 pr,.int .i64 si,.string ⟨st.toArray⟩,.int .u64 sum,vt]] w fun e w' => e=.returned (.bool true)∧Below w.heap.size w w':=by
 obtain⟨ql,hv⟩:=hq
 cases hf:fewF ⟨k,s,on,c,⟨sh,pr,si,st⟩,sum,tt⟩ with
 | false => exact rre_out hv seq tok at' dg la sn s0 hvt hM (hZq hf)
 | true =>
  cases hl:fewC ql 30 with
  | false => exact rre_few hv seq tok at' dg la sn s0 hvt hM (hZq hl)
  | true =>
   by_cases hs:1500 < s0.length
   ·exact rre_long hv seq tok at' dg la sn s0 hvt hM (hZq hl) hs
   ·obtain⟨⟨xs,⟨xq,xl⟩,⟨xt,xa⟩,xn,xd⟩,er,h1⟩ : ∃ m er,rpRead ⟨seq,⟨ql,la⟩,⟨tok,at'⟩,sn,dg⟩ s0=(m,er):=⟨_,_,rfl⟩
    obtain⟨t,g,h2⟩ : ∃ t g,frEnc ⟨k,s,on,c,⟨sh,pr,si,st⟩,sum,tt⟩=(t,g):=⟨_,_,rfl⟩
    obtain⟨⟨ys,⟨yq,yl⟩,⟨yt,ya⟩,yn,yd⟩,eh,h3⟩ : ∃ m eh,rpRead ⟨seq,⟨ql,la⟩,⟨tok,at'⟩,sn,dg⟩ t=(m,eh):=⟨_,_,rfl⟩
    exact rre_in hv seq tok at' dg la sn s0 hvt hM (hZq hl) (by omega) (hZq hf) (hZq h1) (hZq h2) (hZq h3)

end Go.Proofs.YtmpigdokghngiaaGreat
end

section
namespace Go.Proofs.YtmpigdokghngiaaGreat.repairReads
open Go.ChangeShapes Go.WideShapes Go.ChangeAt Go.RowKit
open Go.ChangeMaps (open_string shut_string)
set_option linter.unusedVariables false

theorem own:ownKnob Tryz.prog.godebug=none:=by kernel_rfl
theorem laidOut:laidOutB Tryz.prog=true:=by kernel_rfl

theorem lifted (os:Os) (started:os.Started) (H:Type) (enc:TypeId × Value→H) :
  ReturnsInHanded {} Tryz.checked os 4 .any (Rows.repairReadsSpec.pre6 enc Tryz.prog Tryz.f4 Rows.repairReadsRow.domain false) (Rows.repairReadsSpec.post enc Tryz.prog Tryz.f4 false true false false):=by
 refine returnsInHanded_of_change (C:=Tryz.checked) own started (by kernel_rfl) Tryz.func4
  (ChangeSpec.witness6 (enc:=enc) (C:=Tryz.checked) false ⟨#[],#[.agg #[.int .i64 0,.slice none 0 0,.bool false,.int .i64 0,.int .i64 0,.bool false,.int .i64 0],.string ByteArray.empty,.agg #[.int .i64 0,.int .i64 0,.bool false,.string ByteArray.empty,.int .i64 0,.int .i64 0,.int .i64 0,.string ByteArray.empty,.int .u64 0,.slice none 0 0]],[]⟩ 8 (by kernel_rfl) (by kernel_rfl) (by kernel_rfl) (by kernel_rfl)) ?_
 intro W base args ds gs before hval0 hW hcnd _
 have hval:∀ (j:Nat) t v,Tryz.f4.params[j]?=some t→args[j]?=some v→Value.okWide Tryz.prog W .any base t v:=hval0
 have hW':=hW
 obtain⟨p,q,hA0,hV,rfl,hfz,hnd⟩:=hW
 have hA:DataW.TrodAll enc Tryz.prog W 0 (fun _ => true) true Tryz.f4.params.toList args.toList ds p:=hA0
 rw [Tryz.params4] at hA hval
 obtain⟨v0,vs0,d0,ds0,p0,q0,hargs,rfl,rfl,h0,r0⟩:=trodAll_cons hA
 obtain⟨v1,vs1,d1,ds1,p1,q1,rfl,rfl,rfl,h1,r1⟩:=trodAll_cons r0
 obtain⟨v2,vs2,d2,ds2,p2,q2,rfl,rfl,rfl,h2,r2⟩:=trodAll_cons r1
 obtain⟨rfl,rfl,rfl⟩:=trodAll_nil r2
 obtain rfl:args=#[v0,v1,v2]:=by cases args; simp_all
 obtain⟨rfl,rfl⟩:=trodVars_none hV
 have k0:=h0
 have lt0:∀ x ∈ p0,x.block < W.heap.size:=by obtain⟨m,hm⟩:=k0; exact DataW.trod_lt m _ _ _ hm
 obtain⟨g0_0,g0_1,g0_2,g0_3,g0_4,g0_5,g0_6,rfl,y0_0,y0_1,y0_2,y0_3,y0_4⟩:=open_lnk (hval 0 30 v0 rfl rfl) h0
 have k1:=h1
 have lt1:∀ x ∈ p1,x.block < W.heap.size:=by obtain⟨m,hm⟩:=k1; exact DataW.trod_lt m _ _ _ hm
 obtain⟨s1,rfl,hd1,hp1,w1⟩:=open_string Tryz.underlying9 (hval 1 9 v1 rfl rfl) h1
 obtain⟨a1,e1⟩ : ∃ l:List UInt8,s1=⟨l.toArray⟩:=⟨s1.data.toList,by cases s1; simp⟩
 subst e1
 have w1:a1.length≤maxLen:=by rw [← size_bytes]; exact w1
 have k2:=h2
 have lt2:∀ x ∈ p2,x.block < W.heap.size:=by obtain⟨m,hm⟩:=k2; exact DataW.trod_lt m _ _ _ hm
 obtain⟨f2,t2,rfl,c2,w2⟩:=open_framew (hval 2 56 v2 rfl rfl) h2
 clear hA0 hval0
 refine (walkRepairReads (w:=W) g0_0 g0_1 g0_2 g0_3 g0_4 g0_5 g0_6 y0_0 y0_1 y0_2 y0_3 y0_4 a1 w1 w2 c2).mono fun e W' ⟨he,bel⟩ => ?_
 subst he
 exact⟨_,rfl,_,_,_,[],_,[],hW',trodAll_mk1 (shut_bool Tryz.underlying4 _),(trodAll_cons_mk (Below.trod laidOut (by kernel_rfl) (of_decide_eq_true (by kernel_rfl)) k0 bel lt0) (trodAll_cons_mk (Below.trod laidOut (by kernel_rfl) (of_decide_eq_true (by kernel_rfl)) k1 bel lt1) (trodAll_cons_mk (Below.trod laidOut (by kernel_rfl) (of_decide_eq_true (by kernel_rfl)) k2 bel lt2) trodAll_mk0))),rfl,bel.frame _,fun h => by cases h⟩

theorem over:Rows.repairReadsRow.holds Tryz.pinned (OpenSpec.ofChange Rows.repairReadsSpec) :=
 OpenClaim.holds_of_wide 4 Tryz.f4 rfl rfl rfl rfl rfl rfl rfl ⟨rfl,rfl,rfl,rfl,rfl⟩ rfl rfl rfl rfl rfl (by kernel_rfl) Tryz.func4 (by kernel_rfl)
  (of_decide_eq_true (by kernel_rfl)) (by unfold Func.isWrapper; first | (rw [if_pos (by decide +kernel)]; kernel_rfl) | (rw [if_neg (by decide +kernel)]; exact⟨rfl,rfl⟩))
  (fun os started H enc _ => lifted os started H enc)

theorem proved:Rows.RepairReadsSaid:=over
#print axioms proved
end Go.Proofs.YtmpigdokghngiaaGreat.repairReads
end
