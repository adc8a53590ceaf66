/-
 THE PROOF OF RepairSplit: for every input the law returns true, and each argument reads behind the call as it read before. No condition.
-/
import Derived.Test.YtmpigdokghngiaaGreatQ05
import Derived.Test.YtmpigdokghngiaaGreatQ24
import Derived.Test.YtmpigdokghngiaaGreatQ28
import Derived.Test.YtmpigdokghngiaaGreatQ04
import Derived.Deep.CutRange
import Derived.Test.YtmpigdokghngiaaGreatRows
import Derived.ProofKit
import Derived.OpenShut
import Derived.ShutString
import Derived.ChangeOld
import Derived.SliceStrings
import Derived.Lib.SmallJoins

set_option maxHeartbeats 12800000
set_option maxRecDepth 100000

section
namespace Go.Proofs.YtmpigdokghngiaaGreat
open Go.RowKit

theorem rsp_a {w:World} {v cv vv:Value} {ql:List Chg} {ct view:List Row} (hv:Chgs w v ql) (hc:Tab w cv ct) (ht:Tab w vv view) (ca cb cd ce seq tok at' dg nn now rounds:Int) (la sn oo:Bool) (HF:Hid ((fewC ql 30 && fewT ct)=false)) :
  Calls Tryz.prog 8 #[.agg #[.int .i64 ca,.int .i64 cb,.int .i64 cd,.int .i64 ce],.agg #[.int .i64 seq,v,.bool la,.int .i64 tok,.int .i64 at',.bool sn,.int .i64 dg,cv,.int .i64 nn,.bool oo],.agg #[vv,.int .i64 now,.int .i64 rounds]] w fun e w' => e=.returned (.bool true)∧Below w.heap.size w w':=by
 obtain⟨qa,qc,rfl,-⟩:=hv.open'
 obtain⟨ta,tc,rfl,-⟩:=hc.open'
 obtain⟨va,vc,rfl,-⟩:=ht.open'
 obtain⟨GB,XB,VB,HB⟩:=ent3 w (.cells #[.int .i64 ca,.int .i64 cb,.int .i64 cd,.int .i64 ce] 23) (.cells #[.int .i64 seq,.slice qa ql.length qc,.bool la,.int .i64 tok,.int .i64 at',.bool sn,.int .i64 dg,.slice ta ct.length tc,.int .i64 nn,.bool oo] 35) (.cells #[.slice va view.length vc,.int .i64 now,.int .i64 rounds] 37)
 have HV:=hZq ((hv).later HB.out)
 have HC:=hZq ((hc).later HB.out)
 have HT:=hZq ((ht).later HB.out)
 clear hv hc ht
 go_enter Tryz.func8,Tryz.ntmps8
 go_wp2_with (with_reducible refine ldA aggRSide _ rfl rfl (w.heap.size+1) 0 rfl XB.out [.int .i64 seq,.slice qa ql.length qc,.bool la,.int .i64 tok,.int .i64 at',.bool sn,.int .i64 dg,.slice ta ct.length tc,.int .i64 nn,.bool oo] rfl rfl ?_)
 refine (rrpfew HV.out HC.out seq tok at' dg nn la sn oo HF).mono ?_
 rintro e w4 ⟨rfl,b4⟩
 replace GB:=hZq (upQ GB.out b4)
 replace XB:=hZq (upQ XB.out b4)
 replace VB:=hZq (upQ VB.out b4)
 replace HV:=hZq (HV.out.later b4)
 replace HC:=hZq (HC.out.later b4)
 replace HT:=hZq (HT.out.later b4)
 replace HB:=hZq (below2Z HB.out b4)
 clear b4
 go_wp2_with fail
 refine (live20 _).mono ?_
 rintro e w5 ⟨rfl,b5⟩
 replace HB:=hZq (below2Z HB.out b5)
 clear b5
 go_wp2_with fail
 go_ret
 exact⟨rfl,HB.out⟩

theorem rsp_b {w:World} {v cv vv:Value} {ql:List Chg} {ct view:List Row} (hv:Chgs w v ql) (hc:Tab w cv ct) (ht:Tab w vv view) (ca cb cd ce seq tok at' dg nn now rounds:Int) (la sn oo:Bool) (HF:Hid ((fewC ql 30 && fewT ct)=true)) (HG:Hid (fewT view=false)) :
  Calls Tryz.prog 8 #[.agg #[.int .i64 ca,.int .i64 cb,.int .i64 cd,.int .i64 ce],.agg #[.int .i64 seq,v,.bool la,.int .i64 tok,.int .i64 at',.bool sn,.int .i64 dg,cv,.int .i64 nn,.bool oo],.agg #[vv,.int .i64 now,.int .i64 rounds]] w fun e w' => e=.returned (.bool true)∧Below w.heap.size w w':=by
 obtain⟨qa,qc,rfl,-⟩:=hv.open'
 obtain⟨ta,tc,rfl,-⟩:=hc.open'
 obtain⟨va,vc,rfl,-⟩:=ht.open'
 obtain⟨GB,XB,VB,HB⟩:=ent3 w (.cells #[.int .i64 ca,.int .i64 cb,.int .i64 cd,.int .i64 ce] 23) (.cells #[.int .i64 seq,.slice qa ql.length qc,.bool la,.int .i64 tok,.int .i64 at',.bool sn,.int .i64 dg,.slice ta ct.length tc,.int .i64 nn,.bool oo] 35) (.cells #[.slice va view.length vc,.int .i64 now,.int .i64 rounds] 37)
 have HV:=hZq ((hv).later HB.out)
 have HC:=hZq ((hc).later HB.out)
 have HT:=hZq ((ht).later HB.out)
 clear hv hc ht
 go_enter Tryz.func8,Tryz.ntmps8
 go_wp2_with (with_reducible refine ldA aggRSide _ rfl rfl (w.heap.size+1) 0 rfl XB.out [.int .i64 seq,.slice qa ql.length qc,.bool la,.int .i64 tok,.int .i64 at',.bool sn,.int .i64 dg,.slice ta ct.length tc,.int .i64 nn,.bool oo] rfl rfl ?_)
 refine (rrpfew HV.out HC.out seq tok at' dg nn la sn oo HF).mono ?_
 rintro e w4 ⟨rfl,b4⟩
 replace GB:=hZq (upQ GB.out b4)
 replace XB:=hZq (upQ XB.out b4)
 replace VB:=hZq (upQ VB.out b4)
 replace HV:=hZq (HV.out.later b4)
 replace HC:=hZq (HC.out.later b4)
 replace HT:=hZq (HT.out.later b4)
 replace HB:=hZq (below2Z HB.out b4)
 clear b4
 have VBk0:=ckZ VB.out 0 _ rfl
 go_wp2_with fail
 clear VBk0
 refine (fewt_eqL HT.out HG).mono ?_
 rintro e w5 ⟨rfl,b5⟩
 replace GB:=hZq (upQ GB.out b5)
 replace XB:=hZq (upQ XB.out b5)
 replace VB:=hZq (upQ VB.out b5)
 replace HV:=hZq (HV.out.later b5)
 replace HC:=hZq (HC.out.later b5)
 replace HT:=hZq (HT.out.later b5)
 replace HB:=hZq (below2Z HB.out b5)
 clear b5
 go_wp2_with fail
 refine (live20 _).mono ?_
 rintro e w6 ⟨rfl,b6⟩
 replace HB:=hZq (below2Z HB.out b6)
 clear b6
 go_wp2_with fail
 go_ret
 exact⟨rfl,HB.out⟩

theorem rsp_c {w:World} {v cv vv:Value} {ql:List Chg} {ct view:List Row} (hv:Chgs w v ql) (hc:Tab w cv ct) (ht:Tab w vv view) (ca cb cd ce seq tok at' dg nn now rounds:Int) (la sn oo:Bool) (HF:Hid ((fewC ql 30 && fewT ct)=true)) (HG:Hid (fewT view=true)) (hx:(rounds < 0)∨(20 < rounds)∨(1125899906842624 < now)∨(now < -1125899906842624)) :
  Calls Tryz.prog 8 #[.agg #[.int .i64 ca,.int .i64 cb,.int .i64 cd,.int .i64 ce],.agg #[.int .i64 seq,v,.bool la,.int .i64 tok,.int .i64 at',.bool sn,.int .i64 dg,cv,.int .i64 nn,.bool oo],.agg #[vv,.int .i64 now,.int .i64 rounds]] w fun e w' => e=.returned (.bool true)∧Below w.heap.size w w':=by
 obtain⟨qa,qc,rfl,-⟩:=hv.open'
 obtain⟨ta,tc,rfl,-⟩:=hc.open'
 obtain⟨va,vc,rfl,-⟩:=ht.open'
 obtain⟨GB,XB,VB,HB⟩:=ent3 w (.cells #[.int .i64 ca,.int .i64 cb,.int .i64 cd,.int .i64 ce] 23) (.cells #[.int .i64 seq,.slice qa ql.length qc,.bool la,.int .i64 tok,.int .i64 at',.bool sn,.int .i64 dg,.slice ta ct.length tc,.int .i64 nn,.bool oo] 35) (.cells #[.slice va view.length vc,.int .i64 now,.int .i64 rounds] 37)
 have HV:=hZq ((hv).later HB.out)
 have HC:=hZq ((hc).later HB.out)
 have HT:=hZq ((ht).later HB.out)
 clear hv hc ht
 go_enter Tryz.func8,Tryz.ntmps8
 go_wp2_with (with_reducible refine ldA aggRSide _ rfl rfl (w.heap.size+1) 0 rfl XB.out [.int .i64 seq,.slice qa ql.length qc,.bool la,.int .i64 tok,.int .i64 at',.bool sn,.int .i64 dg,.slice ta ct.length tc,.int .i64 nn,.bool oo] rfl rfl ?_)
 refine (rrpfew HV.out HC.out seq tok at' dg nn la sn oo HF).mono ?_
 rintro e w4 ⟨rfl,b4⟩
 replace GB:=hZq (upQ GB.out b4)
 replace XB:=hZq (upQ XB.out b4)
 replace VB:=hZq (upQ VB.out b4)
 replace HV:=hZq (HV.out.later b4)
 replace HC:=hZq (HC.out.later b4)
 replace HT:=hZq (HT.out.later b4)
 replace HB:=hZq (below2Z HB.out b4)
 clear b4
 have VBk0:=ckZ VB.out 0 _ rfl
 go_wp2_with fail
 clear VBk0
 refine (fewt_eqL HT.out HG).mono ?_
 rintro e w5 ⟨rfl,b5⟩
 replace GB:=hZq (upQ GB.out b5)
 replace XB:=hZq (upQ XB.out b5)
 replace VB:=hZq (upQ VB.out b5)
 replace HV:=hZq (HV.out.later b5)
 replace HC:=hZq (HC.out.later b5)
 replace HT:=hZq (HT.out.later b5)
 replace HB:=hZq (below2Z HB.out b5)
 clear b5
 have VBk1:=ckZ VB.out 1 _ rfl
 have VBk2:=ckZ VB.out 2 _ rfl
 by_cases hk0:rounds < 0
 ·have gd8217:decide (rounds < 0)=true:=by rw [decide_eq_true_eq]; omega
  go_wp2_with fail
  clear VBk1 VBk2
  refine (live20 _).mono ?_
  rintro e w56 ⟨rfl,b56⟩
  replace HB:=hZq (below2Z HB.out b56)
  clear b56
  go_wp2_with fail
  go_ret
  exact⟨rfl,HB.out⟩
 ·have gd2607:decide (rounds < 0)=false:=by rw [decide_eq_false_iff_not]; omega
  by_cases hk1:20 < rounds
  ·have gd8508:decide (20 < rounds)=true:=by rw [decide_eq_true_eq]; omega
   go_wp2_with fail
   clear VBk1 VBk2
   refine (live20 _).mono ?_
   rintro e w56 ⟨rfl,b56⟩
   replace HB:=hZq (below2Z HB.out b56)
   clear b56
   go_wp2_with fail
   go_ret
   exact⟨rfl,HB.out⟩
  ·have gd2316:decide (20 < rounds)=false:=by rw [decide_eq_false_iff_not]; omega
   by_cases hk2:1125899906842624 < now
   ·have gd6723:decide (1125899906842624 < now)=true:=by rw [decide_eq_true_eq]; omega
    go_wp2_with fail
    clear VBk1 VBk2
    refine (live20 _).mono ?_
    rintro e w56 ⟨rfl,b56⟩
    replace HB:=hZq (below2Z HB.out b56)
    clear b56
    go_wp2_with fail
    go_ret
    exact⟨rfl,HB.out⟩
   ·have gd7276:decide (1125899906842624 < now)=false:=by rw [decide_eq_false_iff_not]; omega
    by_cases hk3:now < -1125899906842624
    ·have gd6260:decide (now < -1125899906842624)=true:=by rw [decide_eq_true_eq]; omega
     go_wp2_with fail
     clear VBk1 VBk2
     refine (live20 _).mono ?_
     rintro e w56 ⟨rfl,b56⟩
     replace HB:=hZq (below2Z HB.out b56)
     clear b56
     go_wp2_with fail
     go_ret
     exact⟨rfl,HB.out⟩
    ·have gd3229:decide (now < -1125899906842624)=false:=by rw [decide_eq_false_iff_not]; omega
     exact absurd hx (by omega)

theorem rsp_d {w:World} {v cv vv:Value} {ql:List Chg} {ct view:List Row} (hv:Chgs w v ql) (hc:Tab w cv ct) (ht:Tab w vv view) (ca cb cd ce seq tok at' dg nn now rounds:Int) (la sn oo:Bool) (HF:Hid ((fewC ql 30 && fewT ct)=true)) (HG:Hid (fewT view=true)) (hb:0≤rounds∧rounds≤20∧-1125899906842624≤now∧now≤1125899906842624) {more:Int} (HQ:Hid (rounds.tdiv 2=more)) {xas xat xaa xad xann:Int} {xaq:List Chg} {xal xan xaoo:Bool} {xac:List Row} {xbs xbt xba xbd xbnn:Int} {xbq:List Chg} {xbl xbn xboo:Bool} {xbc:List Row} {xos xot xoa xod xonn:Int} {xoq:List Chg} {xol xon xooo:Bool} {xoc:List Row}
  (HA:Hid (rpSettle ⟨ca,cb,cd,ce⟩ view (min (rounds:Int) 3000).toNat now (⟨seq,⟨ql,la⟩,⟨tok,at'⟩,sn,dg⟩,(⟨ct,nn,oo⟩ : Cli))=(⟨xas,⟨xaq,xal⟩,⟨xat,xaa⟩,xan,xad⟩,(⟨xac,xann,xaoo⟩ : Cli)))) (HBS:Hid (rpSettle ⟨ca,cb,cd,ce⟩ view (min (more:Int) 3000).toNat (now+rounds) (⟨xas,⟨xaq,xal⟩,⟨xat,xaa⟩,xan,xad⟩,(⟨xac,xann,xaoo⟩ : Cli))=(⟨xbs,⟨xbq,xbl⟩,⟨xbt,xba⟩,xbn,xbd⟩,(⟨xbc,xbnn,xboo⟩ : Cli)))) (HD:Hid (rpSettle ⟨ca,cb,cd,ce⟩ view (min ((rounds+more):Int) 3000).toNat now (⟨seq,⟨ql,la⟩,⟨tok,at'⟩,sn,dg⟩,(⟨ct,nn,oo⟩ : Cli))=(⟨xbs,⟨xbq,xbl⟩,⟨xbt,xba⟩,xbn,xbd⟩,(⟨xbc,xbnn,xboo⟩ : Cli)))) (HO:Hid (rpSettle ⟨ca,cb,cd,ce⟩ view (min (1:Int) 3000).toNat now (⟨seq,⟨ql,la⟩,⟨tok,at'⟩,sn,dg⟩,(⟨ct,nn,oo⟩ : Cli))=(⟨xos,⟨xoq,xol⟩,⟨xot,xoa⟩,xon,xod⟩,(⟨xoc,xonn,xooo⟩ : Cli)))) (HR:Hid (rpRound ⟨ca,cb,cd,ce⟩ view (now+1) (⟨seq,⟨ql,la⟩,⟨tok,at'⟩,sn,dg⟩,(⟨ct,nn,oo⟩ : Cli))=(⟨xos,⟨xoq,xol⟩,⟨xot,xoa⟩,xon,xod⟩,(⟨xoc,xonn,xooo⟩ : Cli)))) :
  Calls Tryz.prog 8 #[.agg #[.int .i64 ca,.int .i64 cb,.int .i64 cd,.int .i64 ce],.agg #[.int .i64 seq,v,.bool la,.int .i64 tok,.int .i64 at',.bool sn,.int .i64 dg,cv,.int .i64 nn,.bool oo],.agg #[vv,.int .i64 now,.int .i64 rounds]] w fun e w' => e=.returned (.bool true)∧Below w.heap.size w w':=by
 obtain⟨b1,b2,b3,b4⟩:=hb
 obtain⟨s1,s2,s3,s4⟩:=few_short HF.out
 have s5:Short view:=fun r hr => by have:=((fewT_yes HG.out).2 r hr); omega
 have HFIT:=hZq (RpFit.mk (s:=(⟨seq,⟨ql,la⟩,⟨tok,at'⟩,sn,dg⟩,(⟨ct,nn,oo⟩ : Cli))) s1 s2 s3 s4)
 have HSA:=hZq (settle_fit (cfg:=⟨ca,cb,cd,ce⟩) (view:=view) (min rounds 3000).toNat (t:=now) HFIT.out)
 rw [HA.out] at HSA
 have hq:rounds.tdiv 2=more:=HQ.out
 have hmo:0≤more∧more≤10:=by rw [← hq,Int.tdiv_eq_ediv_of_nonneg (by omega)]; omega
 have wq:IntKind.i64.wrap (rounds.tdiv 2)=more:=by rw [hq]; exact IntWalk.i64_in _ (by omega)
 have w1:IntKind.i64.wrap (now+rounds)=now+rounds:=IntWalk.i64_in _ (by omega)
 have w2:IntKind.i64.wrap (rounds+more)=rounds+more:=IntWalk.i64_in _ (by omega)
 have w3:IntKind.i64.wrap (now+1)=now+1:=IntWalk.i64_in _ (by omega)
 clear hq
 have gd2607:decide (rounds < 0)=false:=by rw [decide_eq_false_iff_not]; omega
 have gd2316:decide (20 < rounds)=false:=by rw [decide_eq_false_iff_not]; omega
 have gd7276:decide (1125899906842624 < now)=false:=by rw [decide_eq_false_iff_not]; omega
 have gd3229:decide (now < -1125899906842624)=false:=by rw [decide_eq_false_iff_not]; omega
 obtain⟨qa,qc,rfl,-⟩:=hv.open'
 obtain⟨ta,tc,rfl,-⟩:=hc.open'
 obtain⟨va,vc,rfl,-⟩:=ht.open'
 obtain⟨GB,XB,VB,HB⟩:=ent3 w (.cells #[.int .i64 ca,.int .i64 cb,.int .i64 cd,.int .i64 ce] 23) (.cells #[.int .i64 seq,.slice qa ql.length qc,.bool la,.int .i64 tok,.int .i64 at',.bool sn,.int .i64 dg,.slice ta ct.length tc,.int .i64 nn,.bool oo] 35) (.cells #[.slice va view.length vc,.int .i64 now,.int .i64 rounds] 37)
 have HV:=hZq ((hv).later HB.out)
 have HC:=hZq ((hc).later HB.out)
 have HT:=hZq ((ht).later HB.out)
 clear hv hc ht
 go_enter Tryz.func8,Tryz.ntmps8
 have VBk2:=ckZ VB.out 2 _ rfl
 go_wp2_with (with_reducible refine ldA aggRSide _ rfl rfl (w.heap.size+1) 0 rfl XB.out [.int .i64 seq,.slice qa ql.length qc,.bool la,.int .i64 tok,.int .i64 at',.bool sn,.int .i64 dg,.slice ta ct.length tc,.int .i64 nn,.bool oo] rfl rfl ?_)
 clear VBk2
 refine (rrpfew HV.out HC.out seq tok at' dg nn la sn oo HF).mono ?_
 rintro e w4 ⟨rfl,b4⟩
 replace GB:=hZq (upQ GB.out b4)
 replace XB:=hZq (upQ XB.out b4)
 replace VB:=hZq (upQ VB.out b4)
 replace HV:=hZq (HV.out.later b4)
 replace HC:=hZq (HC.out.later b4)
 replace HT:=hZq (HT.out.later b4)
 replace HB:=hZq (below2Z HB.out b4)
 clear b4
 have VBk0:=ckZ VB.out 0 _ rfl
 go_wp2_with fail
 clear VBk0
 refine (fewt_eqL HT.out HG).mono ?_
 rintro e w5 ⟨rfl,b5⟩
 replace GB:=hZq (upQ GB.out b5)
 replace XB:=hZq (upQ XB.out b5)
 replace VB:=hZq (upQ VB.out b5)
 replace HV:=hZq (HV.out.later b5)
 replace HC:=hZq (HC.out.later b5)
 replace HT:=hZq (HT.out.later b5)
 replace HB:=hZq (below2Z HB.out b5)
 clear b5
 have VBk1:=ckZ VB.out 1 _ rfl
 have VBk2:=ckZ VB.out 2 _ rfl
 go_upto_region 4 with fail
 clear VBk1 VBk2
 go_upto_region 4 with fail
 go_cut [8] from 46 to 55 (fun pp wx => ∃ B xaua xauc xata xatc,pp=.pointer (some ⟨B,0,none⟩)∧Hid (wx.heap[B]?=some (.cells #[.int .i64 xas,.slice xaua xaq.length xauc,.bool xal,.int .i64 xat,.int .i64 xaa,.bool xan,.int .i64 xad,.slice xata xac.length xatc,.int .i64 xann,.bool xaoo] 41 (0,0)))∧Hid (Chgs wx (.slice xaua xaq.length xauc) xaq)∧Hid (Tab wx (.slice xata xac.length xatc) xac)∧Hid (Below w5.heap.size w5 wx))
 case first =>
  obtain⟨BS,hBS⟩ : ∃ BS:List (Nat × List Value),BS=[(w.heap.size,[.int .i64 ca,.int .i64 cb,.int .i64 cd,.int .i64 ce]),(w.heap.size+1,[.int .i64 seq,.slice qa ql.length qc,.bool la,.int .i64 tok,.int .i64 at',.bool sn,.int .i64 dg,.slice ta ct.length tc,.int .i64 nn,.bool oo]),(w.heap.size+1+1,[.slice va view.length vc,.int .i64 now,.int .i64 rounds])]:=⟨_,rfl⟩
  have D0:=hZq (show heldB w5 BS from by rw [hBS]; exact heldB_cons (cellsAt_block GB.out) (heldB_cons (cellsAt_block XB.out) (heldB_cons (cellsAt_block VB.out) (heldB_nil _))))
  have hL:=heldB_at (b:=w.heap.size) (vs:=[.int .i64 ca,.int .i64 cb,.int .i64 cd,.int .i64 ce]) (bs:=BS) (by rw [hBS]; simp)
  have hq0:=hL 0 _ rfl
  have hq1:=hL 1 _ rfl
  have hq2:=hL 2 _ rfl
  have hq3:=hL 3 _ rfl
  clear hL
  have hL:=heldB_at (b:=w.heap.size+1) (vs:=[.int .i64 seq,.slice qa ql.length qc,.bool la,.int .i64 tok,.int .i64 at',.bool sn,.int .i64 dg,.slice ta ct.length tc,.int .i64 nn,.bool oo]) (bs:=BS) (by rw [hBS]; simp)
  have hq4:=hL 0 _ rfl
  have hq5:=hL 1 _ rfl
  have hq6:=hL 2 _ rfl
  have hq7:=hL 3 _ rfl
  have hq8:=hL 4 _ rfl
  have hq9:=hL 5 _ rfl
  have hq10:=hL 6 _ rfl
  have hq11:=hL 7 _ rfl
  have hq12:=hL 8 _ rfl
  have hq13:=hL 9 _ rfl
  clear hL
  have hL:=heldB_at (b:=w.heap.size+1+1) (vs:=[.slice va view.length vc,.int .i64 now,.int .i64 rounds]) (bs:=BS) (by rw [hBS]; simp)
  have hq14:=hL 0 _ rfl
  have hq15:=hL 1 _ rfl
  have hq16:=hL 2 _ rfl
  clear hL
  clear hBS
  have K0:Hid (Below w5.heap.size w5 w5.drew):=hZq (Below.refl _ _).drew
  refine wp_region_held_drew (S:=(fun X => heldB X BS)) (by kernel_rfl) ?_ (fun hHeld => ?_)
  ·exact heldB_up K0.out D0.out
  generalize w5.drew=z0 at K0 hHeld ⊢
  refine tkZ 0 ?_
  refine tkZ 1 ?_
  refine tkZ 3 ?_
  refine tkZ 4 ?_
  refine tkZ 5 ?_
  refine tkZ 6 ?_
  refine tkZ 7 ?_
  refine tkZ 8 ?_
  refine wpAnyH_ready (rs:=[2,10]) (by as_aux_lemma => kernel_rfl) (by simp) ?_
  refine AllReadyH.cons rfl (fun Kx hK => ?_) (AllReadyH.cons rfl (fun Kx hK => ?_) (AllReadyH.nil))
  ·go_simp
   refine (rpmine (HV.out.later (K0.out)) (HC.out.later (K0.out)) seq tok at' dg nn la sn oo).mono ?_
   rintro e z1 ⟨rfl,bz1⟩
   have K1:=hZq (below2Z K0.out bz1)
   have D1:=hZq (heldB_up K1.out D0.out)
   clear bz1
   go_wp2_with fail
   refine hK.out _ _ ?_ (fun hHeld2 => ?_)
   ·exact D1.out
   clear hK Kx hHeld
   have hHeld:=hHeld2
   clear hHeld2
   try simp only [Act.put,List.setIfInBounds_toArray,List.set_cons_zero,List.set_cons_succ]
   refine wpAnyH_ready (rs:=[9,10]) (by as_aux_lemma => kernel_rfl) (by simp) ?_
   refine AllReadyH.cons rfl (fun Kx hK => ?_) (AllReadyH.cons rfl (fun Kx hK => ?_) (AllReadyH.nil))
   ·go_simp
    refine (rpsettle (HV.out.later (K1.out)) (HC.out.later (K1.out)) (HT.out.later (K1.out)) s1 s2 s3 s4 s5 ca cb cd ce seq tok at' dg now nn rounds la sn oo (by omega) (by omega) HA).mono ?_
    rintro e z2 ⟨u,tv,rfl,hU,hT,bz2⟩
    have K2:=hZq (below2Z K1.out bz2)
    have D2:=hZq (heldB_up K2.out D0.out)
    obtain⟨xaua,xauc,rfl,-⟩:=hU.open'
    obtain⟨xata,xatc,rfl,-⟩:=hT.open'
    have QX:=hZq hU
    have TX:=hZq hT
    clear hU hT
    clear bz2
    go_wp2_with fail
    refine hK.out _ _ ?_ (fun hHeld2 => ?_)
    ·exact D2.out
    clear hK Kx hHeld
    have hHeld:=hHeld2
    clear hHeld2
    try simp only [Act.put,List.setIfInBounds_toArray,List.set_cons_zero,List.set_cons_succ]
    refine wpAnyH_ready (rs:=[10]) (by as_aux_lemma => kernel_rfl) (by simp) ?_
    refine AllReadyH.cons rfl (fun Kx hK => ?_) AllReadyH.nil
    go_simp
    refine hK.out _ _ ?_ (fun hHeld2 => ?_)
    ·exact heldB_up (below2Z K2.out (bl_newZ _ _)) D0.out
    clear hK Kx hHeld
    have hHeld:=hHeld2
    clear hHeld2
    try simp only [Act.put,List.setIfInBounds_toArray,List.set_cons_zero,List.set_cons_succ]
    have bz3:=bl_newZ z2 (.cells #[.int .i64 0,.slice none 0 0,.bool false,.int .i64 0,.int .i64 0,.bool false,.int .i64 0,.slice none 0 0,.int .i64 0,.bool false] 41)
    have K3:=hZq (below2Z K2.out bz3)
    have D3:=hZq (heldB_up K3.out D0.out)
    have nz3:=hZq ((MapKept.heap_alloc z2 (.cells #[.int .i64 0,.slice none 0 0,.bool false,.int .i64 0,.int .i64 0,.bool false,.int .i64 0,.slice none 0 0,.int .i64 0,.bool false] 41)).1)
    have hB3:w5.heap.size≤z2.heap.size:=(K2.out).size
    replace QX:=hZq (Chgs.later (QX.out) bz3)
    replace TX:=hZq (Tab.later (TX.out) bz3)
    clear bz3
    generalize z2.alloc (.cells #[.int .i64 0,.slice none 0 0,.bool false,.int .i64 0,.int .i64 0,.bool false,.int .i64 0,.slice none 0 0,.int .i64 0,.bool false] 41)=z3 at K3 D3 nz3 QX TX hHeld ⊢
    generalize z2.heap.size=B3 at nz3 hB3  ⊢
    obtain⟨⟨r0,r1,r2,r3,r4,r5,r6,r7,r8,r9⟩,⟨g0,g1,g2,g3,g4,g5,g6,g7,g8,g9⟩⟩:=blk10 nz3.out
    refine wpAnyH_ready (rs:=[11]) (by as_aux_lemma => kernel_rfl) (by simp) ?_
    refine AllReadyH.cons rfl (fun Kx hK => ?_) AllReadyH.nil
    go_simp
    clear r0 r1 r2 r3 r4 r5 r6 r7 r8 r9 g0 g1 g2 g3 g4 g5 g6 g7 g8 g9
    have YB:=hZq (stN10_heap nz3.out (.int .i64 xas) (.slice xaua xaq.length xauc) (.bool xal) (.int .i64 xat) (.int .i64 xaa) (.bool xan) (.int .i64 xad) (.slice xata xac.length xatc) (.int .i64 xann) (.bool xaoo))
    have KE:=hZq (stN10_below (K3.out) hB3 (.int .i64 xas) (.slice xaua xaq.length xauc) (.bool xal) (.int .i64 xat) (.int .i64 xaa) (.bool xan) (.int .i64 xad) (.slice xata xac.length xatc) (.int .i64 xann) (.bool xaoo))
    have QZ:=hZq (QX.out.nostr (noTx_str (l:=[.int .i64 0,.slice none 0 0,.bool false,.int .i64 0,.int .i64 0,.bool false,.int .i64 0,.slice none 0 0,.int .i64 0,.bool false]) nz3.out rfl) (fun k hk => stN10_far z3 B3 (.int .i64 xas) (.slice xaua xaq.length xauc) (.bool xal) (.int .i64 xat) (.int .i64 xaa) (.bool xan) (.int .i64 xad) (.slice xata xac.length xatc) (.int .i64 xann) (.bool xaoo) hk) (stN10_size z3 B3 (.int .i64 xas) (.slice xaua xaq.length xauc) (.bool xal) (.int .i64 xat) (.int .i64 xaa) (.bool xan) (.int .i64 xad) (.slice xata xac.length xatc) (.int .i64 xann) (.bool xaoo)))
    have TZ:=hZq (TX.out.nostr (noTx_str (l:=[.int .i64 0,.slice none 0 0,.bool false,.int .i64 0,.int .i64 0,.bool false,.int .i64 0,.slice none 0 0,.int .i64 0,.bool false]) nz3.out rfl) (fun k hk => stN10_far z3 B3 (.int .i64 xas) (.slice xaua xaq.length xauc) (.bool xal) (.int .i64 xat) (.int .i64 xaa) (.bool xan) (.int .i64 xad) (.slice xata xac.length xatc) (.int .i64 xann) (.bool xaoo) hk) (stN10_size z3 B3 (.int .i64 xas) (.slice xaua xaq.length xauc) (.bool xal) (.int .i64 xat) (.int .i64 xaa) (.bool xan) (.int .i64 xad) (.slice xata xac.length xatc) (.int .i64 xann) (.bool xaoo)))
    refine hK.out _ _ ?_ (fun hHeld2 => ?_)
    ·exact heldB_up KE.out D0.out
    clear hK Kx hHeld
    have hHeld:=hHeld2
    clear hHeld2
    refine wpAnyH_done (by kernel_rfl) ?_ _
    go_wp2_with fail
    go_meet
    exact⟨B3,xaua,xauc,xata,xatc,rfl,YB,QZ,TZ,KE⟩
   ·go_simp
    refine hK.out _ _ ?_ (fun hHeld2 => ?_)
    ·exact heldB_up (below2Z K1.out (bl_newZ _ _)) D0.out
    clear hK Kx hHeld
    have hHeld:=hHeld2
    clear hHeld2
    try simp only [Act.put,List.setIfInBounds_toArray,List.set_cons_zero,List.set_cons_succ]
    have bz5:=bl_newZ z1 (.cells #[.int .i64 0,.slice none 0 0,.bool false,.int .i64 0,.int .i64 0,.bool false,.int .i64 0,.slice none 0 0,.int .i64 0,.bool false] 41)
    have K5:=hZq (below2Z K1.out bz5)
    have D5:=hZq (heldB_up K5.out D0.out)
    have nz5:=hZq ((MapKept.heap_alloc z1 (.cells #[.int .i64 0,.slice none 0 0,.bool false,.int .i64 0,.int .i64 0,.bool false,.int .i64 0,.slice none 0 0,.int .i64 0,.bool false] 41)).1)
    have hB5:w5.heap.size≤z1.heap.size:=(K1.out).size
    clear bz5
    generalize z1.alloc (.cells #[.int .i64 0,.slice none 0 0,.bool false,.int .i64 0,.int .i64 0,.bool false,.int .i64 0,.slice none 0 0,.int .i64 0,.bool false] 41)=z5 at K5 D5 nz5 hHeld ⊢
    generalize z1.heap.size=B5 at nz5 hB5  ⊢
    refine wpAnyH_ready (rs:=[9]) (by as_aux_lemma => kernel_rfl) (by simp) ?_
    refine AllReadyH.cons rfl (fun Kx hK => ?_) AllReadyH.nil
    go_simp
    refine (rpsettle (HV.out.later (K5.out)) (HC.out.later (K5.out)) (HT.out.later (K5.out)) s1 s2 s3 s4 s5 ca cb cd ce seq tok at' dg now nn rounds la sn oo (by omega) (by omega) HA).mono ?_
    rintro e z6 ⟨u,tv,rfl,hU,hT,bz6⟩
    have K6:=hZq (below2Z K5.out bz6)
    have D6:=hZq (heldB_up K6.out D0.out)
    replace nz5:=hZq (((bz6).block _ (Array.getElem?_eq_some_iff.1 (nz5.out)).1).trans (nz5.out))
    obtain⟨xaua,xauc,rfl,-⟩:=hU.open'
    obtain⟨xata,xatc,rfl,-⟩:=hT.open'
    have QX:=hZq hU
    have TX:=hZq hT
    clear hU hT
    clear bz6
    go_wp2_with fail
    refine hK.out _ _ ?_ (fun hHeld2 => ?_)
    ·exact D6.out
    clear hK Kx hHeld
    have hHeld:=hHeld2
    clear hHeld2
    try simp only [Act.put,List.setIfInBounds_toArray,List.set_cons_zero,List.set_cons_succ]
    obtain⟨⟨r0,r1,r2,r3,r4,r5,r6,r7,r8,r9⟩,⟨g0,g1,g2,g3,g4,g5,g6,g7,g8,g9⟩⟩:=blk10 nz5.out
    refine wpAnyH_ready (rs:=[11]) (by as_aux_lemma => kernel_rfl) (by simp) ?_
    refine AllReadyH.cons rfl (fun Kx hK => ?_) AllReadyH.nil
    go_simp
    clear r0 r1 r2 r3 r4 r5 r6 r7 r8 r9 g0 g1 g2 g3 g4 g5 g6 g7 g8 g9
    have YB:=hZq (stN10_heap nz5.out (.int .i64 xas) (.slice xaua xaq.length xauc) (.bool xal) (.int .i64 xat) (.int .i64 xaa) (.bool xan) (.int .i64 xad) (.slice xata xac.length xatc) (.int .i64 xann) (.bool xaoo))
    have KE:=hZq (stN10_below (K6.out) hB5 (.int .i64 xas) (.slice xaua xaq.length xauc) (.bool xal) (.int .i64 xat) (.int .i64 xaa) (.bool xan) (.int .i64 xad) (.slice xata xac.length xatc) (.int .i64 xann) (.bool xaoo))
    have QZ:=hZq (QX.out.nostr (noTx_str (l:=[.int .i64 0,.slice none 0 0,.bool false,.int .i64 0,.int .i64 0,.bool false,.int .i64 0,.slice none 0 0,.int .i64 0,.bool false]) nz5.out rfl) (fun k hk => stN10_far z6 B5 (.int .i64 xas) (.slice xaua xaq.length xauc) (.bool xal) (.int .i64 xat) (.int .i64 xaa) (.bool xan) (.int .i64 xad) (.slice xata xac.length xatc) (.int .i64 xann) (.bool xaoo) hk) (stN10_size z6 B5 (.int .i64 xas) (.slice xaua xaq.length xauc) (.bool xal) (.int .i64 xat) (.int .i64 xaa) (.bool xan) (.int .i64 xad) (.slice xata xac.length xatc) (.int .i64 xann) (.bool xaoo)))
    have TZ:=hZq (TX.out.nostr (noTx_str (l:=[.int .i64 0,.slice none 0 0,.bool false,.int .i64 0,.int .i64 0,.bool false,.int .i64 0,.slice none 0 0,.int .i64 0,.bool false]) nz5.out rfl) (fun k hk => stN10_far z6 B5 (.int .i64 xas) (.slice xaua xaq.length xauc) (.bool xal) (.int .i64 xat) (.int .i64 xaa) (.bool xan) (.int .i64 xad) (.slice xata xac.length xatc) (.int .i64 xann) (.bool xaoo) hk) (stN10_size z6 B5 (.int .i64 xas) (.slice xaua xaq.length xauc) (.bool xal) (.int .i64 xat) (.int .i64 xaa) (.bool xan) (.int .i64 xad) (.slice xata xac.length xatc) (.int .i64 xann) (.bool xaoo)))
    refine hK.out _ _ ?_ (fun hHeld2 => ?_)
    ·exact heldB_up KE.out D0.out
    clear hK Kx hHeld
    have hHeld:=hHeld2
    clear hHeld2
    refine wpAnyH_done (by kernel_rfl) ?_ _
    go_wp2_with fail
    go_meet
    exact⟨B5,xaua,xauc,xata,xatc,rfl,YB,QZ,TZ,KE⟩
  ·go_simp
   refine hK.out _ _ ?_ (fun hHeld2 => ?_)
   ·exact heldB_up (below2Z K0.out (bl_newZ _ _)) D0.out
   clear hK Kx hHeld
   have hHeld:=hHeld2
   clear hHeld2
   try simp only [Act.put,List.setIfInBounds_toArray,List.set_cons_zero,List.set_cons_succ]
   have bz8:=bl_newZ z0 (.cells #[.int .i64 0,.slice none 0 0,.bool false,.int .i64 0,.int .i64 0,.bool false,.int .i64 0,.slice none 0 0,.int .i64 0,.bool false] 41)
   have K8:=hZq (below2Z K0.out bz8)
   have D8:=hZq (heldB_up K8.out D0.out)
   have nz8:=hZq ((MapKept.heap_alloc z0 (.cells #[.int .i64 0,.slice none 0 0,.bool false,.int .i64 0,.int .i64 0,.bool false,.int .i64 0,.slice none 0 0,.int .i64 0,.bool false] 41)).1)
   have hB8:w5.heap.size≤z0.heap.size:=(K0.out).size
   clear bz8
   generalize z0.alloc (.cells #[.int .i64 0,.slice none 0 0,.bool false,.int .i64 0,.int .i64 0,.bool false,.int .i64 0,.slice none 0 0,.int .i64 0,.bool false] 41)=z8 at K8 D8 nz8 hHeld ⊢
   generalize z0.heap.size=B8 at nz8 hB8  ⊢
   refine wpAnyH_ready (rs:=[2]) (by as_aux_lemma => kernel_rfl) (by simp) ?_
   refine AllReadyH.cons rfl (fun Kx hK => ?_) AllReadyH.nil
   go_simp
   refine (rpmine (HV.out.later (K8.out)) (HC.out.later (K8.out)) seq tok at' dg nn la sn oo).mono ?_
   rintro e z9 ⟨rfl,bz9⟩
   have K9:=hZq (below2Z K8.out bz9)
   have D9:=hZq (heldB_up K9.out D0.out)
   replace nz8:=hZq (((bz9).block _ (Array.getElem?_eq_some_iff.1 (nz8.out)).1).trans (nz8.out))
   clear bz9
   go_wp2_with fail
   refine hK.out _ _ ?_ (fun hHeld2 => ?_)
   ·exact D9.out
   clear hK Kx hHeld
   have hHeld:=hHeld2
   clear hHeld2
   try simp only [Act.put,List.setIfInBounds_toArray,List.set_cons_zero,List.set_cons_succ]
   refine wpAnyH_ready (rs:=[9]) (by as_aux_lemma => kernel_rfl) (by simp) ?_
   refine AllReadyH.cons rfl (fun Kx hK => ?_) AllReadyH.nil
   go_simp
   refine (rpsettle (HV.out.later (K9.out)) (HC.out.later (K9.out)) (HT.out.later (K9.out)) s1 s2 s3 s4 s5 ca cb cd ce seq tok at' dg now nn rounds la sn oo (by omega) (by omega) HA).mono ?_
   rintro e z10 ⟨u,tv,rfl,hU,hT,bz10⟩
   have K10:=hZq (below2Z K9.out bz10)
   have D10:=hZq (heldB_up K10.out D0.out)
   replace nz8:=hZq (((bz10).block _ (Array.getElem?_eq_some_iff.1 (nz8.out)).1).trans (nz8.out))
   obtain⟨xaua,xauc,rfl,-⟩:=hU.open'
   obtain⟨xata,xatc,rfl,-⟩:=hT.open'
   have QX:=hZq hU
   have TX:=hZq hT
   clear hU hT
   clear bz10
   go_wp2_with fail
   refine hK.out _ _ ?_ (fun hHeld2 => ?_)
   ·exact D10.out
   clear hK Kx hHeld
   have hHeld:=hHeld2
   clear hHeld2
   try simp only [Act.put,List.setIfInBounds_toArray,List.set_cons_zero,List.set_cons_succ]
   obtain⟨⟨r0,r1,r2,r3,r4,r5,r6,r7,r8,r9⟩,⟨g0,g1,g2,g3,g4,g5,g6,g7,g8,g9⟩⟩:=blk10 nz8.out
   refine wpAnyH_ready (rs:=[11]) (by as_aux_lemma => kernel_rfl) (by simp) ?_
   refine AllReadyH.cons rfl (fun Kx hK => ?_) AllReadyH.nil
   go_simp
   clear r0 r1 r2 r3 r4 r5 r6 r7 r8 r9 g0 g1 g2 g3 g4 g5 g6 g7 g8 g9
   have YB:=hZq (stN10_heap nz8.out (.int .i64 xas) (.slice xaua xaq.length xauc) (.bool xal) (.int .i64 xat) (.int .i64 xaa) (.bool xan) (.int .i64 xad) (.slice xata xac.length xatc) (.int .i64 xann) (.bool xaoo))
   have KE:=hZq (stN10_below (K10.out) hB8 (.int .i64 xas) (.slice xaua xaq.length xauc) (.bool xal) (.int .i64 xat) (.int .i64 xaa) (.bool xan) (.int .i64 xad) (.slice xata xac.length xatc) (.int .i64 xann) (.bool xaoo))
   have QZ:=hZq (QX.out.nostr (noTx_str (l:=[.int .i64 0,.slice none 0 0,.bool false,.int .i64 0,.int .i64 0,.bool false,.int .i64 0,.slice none 0 0,.int .i64 0,.bool false]) nz8.out rfl) (fun k hk => stN10_far z10 B8 (.int .i64 xas) (.slice xaua xaq.length xauc) (.bool xal) (.int .i64 xat) (.int .i64 xaa) (.bool xan) (.int .i64 xad) (.slice xata xac.length xatc) (.int .i64 xann) (.bool xaoo) hk) (stN10_size z10 B8 (.int .i64 xas) (.slice xaua xaq.length xauc) (.bool xal) (.int .i64 xat) (.int .i64 xaa) (.bool xan) (.int .i64 xad) (.slice xata xac.length xatc) (.int .i64 xann) (.bool xaoo)))
   have TZ:=hZq (TX.out.nostr (noTx_str (l:=[.int .i64 0,.slice none 0 0,.bool false,.int .i64 0,.int .i64 0,.bool false,.int .i64 0,.slice none 0 0,.int .i64 0,.bool false]) nz8.out rfl) (fun k hk => stN10_far z10 B8 (.int .i64 xas) (.slice xaua xaq.length xauc) (.bool xal) (.int .i64 xat) (.int .i64 xaa) (.bool xan) (.int .i64 xad) (.slice xata xac.length xatc) (.int .i64 xann) (.bool xaoo) hk) (stN10_size z10 B8 (.int .i64 xas) (.slice xaua xaq.length xauc) (.bool xal) (.int .i64 xat) (.int .i64 xaa) (.bool xan) (.int .i64 xad) (.slice xata xac.length xatc) (.int .i64 xann) (.bool xaoo)))
   refine hK.out _ _ ?_ (fun hHeld2 => ?_)
   ·exact heldB_up KE.out D0.out
   clear hK Kx hHeld
   have hHeld:=hHeld2
   clear hHeld2
   refine wpAnyH_done (by kernel_rfl) ?_ _
   go_wp2_with fail
   go_meet
   exact⟨B8,xaua,xauc,xata,xatc,rfl,YB,QZ,TZ,KE⟩
 case rest =>
  obtain⟨Bxa,xaua,xauc,xata,xatc,rfl,LN,QN,TN,KB⟩:=hcut
  obtain⟨w6,hw6⟩ : ∃ X,X=wc:=⟨_,rfl⟩
  subst hw6
  replace GB:=hZq (upQ GB.out KB.out)
  replace XB:=hZq (upQ XB.out KB.out)
  replace VB:=hZq (upQ VB.out KB.out)
  replace HV:=hZq (HV.out.later KB.out)
  replace HC:=hZq (HC.out.later KB.out)
  replace HT:=hZq (HT.out.later KB.out)
  replace HB:=hZq (below2Z HB.out KB.out)
  clear KB
  have Sxa:=LN
  have Qxa:=QN
  have Txa:=TN
  clear LN QN TN
  have VBk0:=ckZ VB.out 0 _ rfl
  have VBk1:=ckZ VB.out 1 _ rfl
  have VBk2:=ckZ VB.out 2 _ rfl
  go_wp2_with (first | (with_reducible refine ldA aggCfg _ rfl rfl (w.heap.size) 0 rfl GB.out [.int .i64 ca,.int .i64 cb,.int .i64 cd,.int .i64 ce] rfl rfl ?_) | (with_reducible refine ldA aggSide _ rfl rfl (Bxa) 0 rfl Sxa.out [.int .i64 xas,.slice xaua xaq.length xauc,.bool xal,.int .i64 xat,.int .i64 xaa,.bool xan,.int .i64 xad,.slice xata xac.length xatc,.int .i64 xann,.bool xaoo] rfl rfl ?_))
  clear VBk0 VBk1 VBk2
  refine (rpsettle Qxa.out Txa.out HT.out HSA.out.sc HSA.out.ql HSA.out.st HSA.out.tl s5 ca cb cd ce xas xat xaa xad (now+rounds) xann more xal xan xaoo (by omega) (by omega) HBS).mono ?_
  rintro e w7 ⟨u,tv,rfl,hU,hT,b7⟩
  replace GB:=hZq (upQ GB.out b7)
  replace XB:=hZq (upQ XB.out b7)
  replace VB:=hZq (upQ VB.out b7)
  replace Sxa:=hZq (upQ Sxa.out b7)
  replace HV:=hZq (HV.out.later b7)
  replace HC:=hZq (HC.out.later b7)
  replace HT:=hZq (HT.out.later b7)
  replace Qxa:=hZq (Chgs.later Qxa.out b7)
  replace Txa:=hZq (Tab.later Txa.out b7)
  replace HB:=hZq (below2Z HB.out b7)
  obtain⟨xbua,xbuc,rfl,-⟩:=hU.open'
  obtain⟨xbta,xbtc,rfl,-⟩:=hT.open'
  have Qxb:=hZq hU
  have Txb:=hZq hT
  clear hU hT
  clear b7
  have hsGB:=(Array.getElem?_eq_some_iff.1 GB.out).1
  have hsXB:=(Array.getElem?_eq_some_iff.1 XB.out).1
  have hsVB:=(Array.getElem?_eq_some_iff.1 VB.out).1
  have hsSxa:=(Array.getElem?_eq_some_iff.1 Sxa.out).1
  have b8:=bl_newZ w7 (.cells #[.int .i64 0,.slice none 0 0,.bool false,.int .i64 0,.int .i64 0,.bool false,.int .i64 0,.slice none 0 0,.int .i64 0,.bool false] 41)
  have SB_:=newQ w7 (.cells #[.int .i64 0,.slice none 0 0,.bool false,.int .i64 0,.int .i64 0,.bool false,.int .i64 0,.slice none 0 0,.int .i64 0,.bool false] 41)
  have hSB_:w.heap.size≤w7.heap.size:=HB.out.size
  replace GB:=hZq (upQ GB.out b8)
  replace XB:=hZq (upQ XB.out b8)
  replace VB:=hZq (upQ VB.out b8)
  replace Sxa:=hZq (upQ Sxa.out b8)
  replace HV:=hZq (HV.out.later b8)
  replace HC:=hZq (HC.out.later b8)
  replace HT:=hZq (HT.out.later b8)
  replace Qxa:=hZq (Chgs.later Qxa.out b8)
  replace Txa:=hZq (Tab.later Txa.out b8)
  replace Qxb:=hZq (Chgs.later Qxb.out b8)
  replace Txb:=hZq (Tab.later Txb.out b8)
  replace HB:=hZq (below2Z HB.out b8)
  clear b8
  replace SB_:=hZq SB_
  go_wp2_with (with_reducible refine stA aggSide _ _ rfl rfl (w7.heap.size) 0 rfl SB_.out [.int .i64 xbs,.slice xbua xbq.length xbuc,.bool xbl,.int .i64 xbt,.int .i64 xba,.bool xbn,.int .i64 xbd,.slice xbta xbc.length xbtc,.int .i64 xbnn,.bool xboo] rfl rfl (Nat.le_of_ble_eq_true rfl) rfl [.int .i64 xbs,.slice xbua xbq.length xbuc,.bool xbl,.int .i64 xbt,.int .i64 xba,.bool xbn,.int .i64 xbd,.slice xbta xbc.length xbtc,.int .i64 xbnn,.bool xboo] rfl ?_)
  intro w9 hst
  have HBz:=hZq (hst.bel HB.out (show w.heap.size≤w7.heap.size by omega))
  have GBz:=hZq (hst.keep GB.out (show ¬ w.heap.size=w7.heap.size by omega))
  have XBz:=hZq (hst.keep XB.out (show ¬ w.heap.size+1=w7.heap.size by omega))
  have VBz:=hZq (hst.keep VB.out (show ¬ w.heap.size+1+1=w7.heap.size by omega))
  have Sxaz:=hZq (hst.keep Sxa.out (show ¬ Bxa=w7.heap.size by omega))
  have SB_z:=hZq hst.at'
  have HVz:=hZq (Chgs.sta HV.out hst SB_.out rfl)
  have HCz:=hZq (Tab.sta HC.out hst SB_.out rfl)
  have HTz:=hZq (Tab.sta HT.out hst SB_.out rfl)
  have Qxaz:=hZq (Chgs.sta Qxa.out hst SB_.out rfl)
  have Txaz:=hZq (Tab.sta Txa.out hst SB_.out rfl)
  have Qxbz:=hZq (Chgs.sta Qxb.out hst SB_.out rfl)
  have Txbz:=hZq (Tab.sta Txb.out hst SB_.out rfl)
  clear hst HB GB XB VB Sxa SB_ HV HC HT Qxa Txa Qxb Txb
  have HB:=HBz
  have GB:=GBz
  have XB:=XBz
  have VB:=VBz
  have Sxa:=Sxaz
  have SB_:=SB_z
  have HV:=HVz
  have HC:=HCz
  have HT:=HTz
  have Qxa:=Qxaz
  have Txa:=Txaz
  have Qxb:=Qxbz
  have Txb:=Txbz
  clear HBz GBz XBz VBz Sxaz SB_z HVz HCz HTz Qxaz Txaz Qxbz Txbz
  generalize w7.heap.size=BSB_ at SB_ hSB_ hsGB hsXB hsVB hsSxa ⊢
  have dSB_GB:¬ w.heap.size=BSB_:=by omega
  have dSB_XB:¬ w.heap.size+1=BSB_:=by omega
  have dSB_VB:¬ w.heap.size+1+1=BSB_:=by omega
  have dSB_Sxa:¬ Bxa=BSB_:=by omega
  have eSB_GB:¬ BSB_=w.heap.size:=by omega
  have eSB_XB:¬ BSB_=w.heap.size+1:=by omega
  have eSB_VB:¬ BSB_=w.heap.size+1+1:=by omega
  have eSB_Sxa:¬ BSB_=Bxa:=by omega
  clear hsGB hsXB hsVB hsSxa
  go_upto_region 6 with fail
  go_upto_region 6 with fail
  go_cut [10] from 67 to 78 (fun pp wx => ∃ B xdua xduc xdta xdtc,pp=.pointer (some ⟨B,0,none⟩)∧Hid (wx.heap[B]?=some (.cells #[.int .i64 xbs,.slice xdua xbq.length xduc,.bool xbl,.int .i64 xbt,.int .i64 xba,.bool xbn,.int .i64 xbd,.slice xdta xbc.length xdtc,.int .i64 xbnn,.bool xboo] 41 (0,0)))∧Hid (Chgs wx (.slice xdua xbq.length xduc) xbq)∧Hid (Tab wx (.slice xdta xbc.length xdtc) xbc)∧Hid (Below w9.heap.size w9 wx))
  case first =>
   obtain⟨BS,hBS⟩ : ∃ BS:List (Nat × List Value),BS=[(w.heap.size,[.int .i64 ca,.int .i64 cb,.int .i64 cd,.int .i64 ce]),(w.heap.size+1,[.int .i64 seq,.slice qa ql.length qc,.bool la,.int .i64 tok,.int .i64 at',.bool sn,.int .i64 dg,.slice ta ct.length tc,.int .i64 nn,.bool oo]),(w.heap.size+1+1,[.slice va view.length vc,.int .i64 now,.int .i64 rounds])]:=⟨_,rfl⟩
   have D0:=hZq (show heldB w9 BS from by rw [hBS]; exact heldB_cons (cellsAt_block GB.out) (heldB_cons (cellsAt_block XB.out) (heldB_cons (cellsAt_block VB.out) (heldB_nil _))))
   have hL:=heldB_at (b:=w.heap.size) (vs:=[.int .i64 ca,.int .i64 cb,.int .i64 cd,.int .i64 ce]) (bs:=BS) (by rw [hBS]; simp)
   have hq0:=hL 0 _ rfl
   have hq1:=hL 1 _ rfl
   have hq2:=hL 2 _ rfl
   have hq3:=hL 3 _ rfl
   clear hL
   have hL:=heldB_at (b:=w.heap.size+1) (vs:=[.int .i64 seq,.slice qa ql.length qc,.bool la,.int .i64 tok,.int .i64 at',.bool sn,.int .i64 dg,.slice ta ct.length tc,.int .i64 nn,.bool oo]) (bs:=BS) (by rw [hBS]; simp)
   have hq4:=hL 0 _ rfl
   have hq5:=hL 1 _ rfl
   have hq6:=hL 2 _ rfl
   have hq7:=hL 3 _ rfl
   have hq8:=hL 4 _ rfl
   have hq9:=hL 5 _ rfl
   have hq10:=hL 6 _ rfl
   have hq11:=hL 7 _ rfl
   have hq12:=hL 8 _ rfl
   have hq13:=hL 9 _ rfl
   clear hL
   have hL:=heldB_at (b:=w.heap.size+1+1) (vs:=[.slice va view.length vc,.int .i64 now,.int .i64 rounds]) (bs:=BS) (by rw [hBS]; simp)
   have hq14:=hL 0 _ rfl
   have hq15:=hL 1 _ rfl
   have hq16:=hL 2 _ rfl
   clear hL
   clear hBS
   have K0:Hid (Below w9.heap.size w9 w9.drew):=hZq (Below.refl _ _).drew
   refine wp_region_held_drew (S:=(fun X => heldB X BS)) (by kernel_rfl) ?_ (fun hHeld => ?_)
   ·exact heldB_up K0.out D0.out
   generalize w9.drew=z0 at K0 hHeld ⊢
   refine tkZ 0 ?_
   refine tkZ 1 ?_
   refine tkZ 3 ?_
   refine tkZ 4 ?_
   refine tkZ 5 ?_
   refine tkZ 6 ?_
   refine tkZ 7 ?_
   refine tkZ 8 ?_
   refine tkZ 9 ?_
   refine tkZ 10 ?_
   refine wpAnyH_ready (rs:=[2,12]) (by as_aux_lemma => kernel_rfl) (by simp) ?_
   refine AllReadyH.cons rfl (fun Kx hK => ?_) (AllReadyH.cons rfl (fun Kx hK => ?_) (AllReadyH.nil))
   ·go_simp
    refine (rpmine (HV.out.later (K0.out)) (HC.out.later (K0.out)) seq tok at' dg nn la sn oo).mono ?_
    rintro e z1 ⟨rfl,bz1⟩
    have K1:=hZq (below2Z K0.out bz1)
    have D1:=hZq (heldB_up K1.out D0.out)
    clear bz1
    go_wp2_with fail
    refine hK.out _ _ ?_ (fun hHeld2 => ?_)
    ·exact D1.out
    clear hK Kx hHeld
    have hHeld:=hHeld2
    clear hHeld2
    try simp only [Act.put,List.setIfInBounds_toArray,List.set_cons_zero,List.set_cons_succ]
    refine wpAnyH_ready (rs:=[11,12]) (by as_aux_lemma => kernel_rfl) (by simp) ?_
    refine AllReadyH.cons rfl (fun Kx hK => ?_) (AllReadyH.cons rfl (fun Kx hK => ?_) (AllReadyH.nil))
    ·go_simp
     refine (rpsettle (HV.out.later (K1.out)) (HC.out.later (K1.out)) (HT.out.later (K1.out)) s1 s2 s3 s4 s5 ca cb cd ce seq tok at' dg now nn (rounds+more) la sn oo (by omega) (by omega) HD).mono ?_
     rintro e z2 ⟨u,tv,rfl,hU,hT,bz2⟩
     have K2:=hZq (below2Z K1.out bz2)
     have D2:=hZq (heldB_up K2.out D0.out)
     obtain⟨xdua,xduc,rfl,-⟩:=hU.open'
     obtain⟨xdta,xdtc,rfl,-⟩:=hT.open'
     have QX:=hZq hU
     have TX:=hZq hT
     clear hU hT
     clear bz2
     go_wp2_with fail
     refine hK.out _ _ ?_ (fun hHeld2 => ?_)
     ·exact D2.out
     clear hK Kx hHeld
     have hHeld:=hHeld2
     clear hHeld2
     try simp only [Act.put,List.setIfInBounds_toArray,List.set_cons_zero,List.set_cons_succ]
     refine wpAnyH_ready (rs:=[12]) (by as_aux_lemma => kernel_rfl) (by simp) ?_
     refine AllReadyH.cons rfl (fun Kx hK => ?_) AllReadyH.nil
     go_simp
     refine hK.out _ _ ?_ (fun hHeld2 => ?_)
     ·exact heldB_up (below2Z K2.out (bl_newZ _ _)) D0.out
     clear hK Kx hHeld
     have hHeld:=hHeld2
     clear hHeld2
     try simp only [Act.put,List.setIfInBounds_toArray,List.set_cons_zero,List.set_cons_succ]
     have bz3:=bl_newZ z2 (.cells #[.int .i64 0,.slice none 0 0,.bool false,.int .i64 0,.int .i64 0,.bool false,.int .i64 0,.slice none 0 0,.int .i64 0,.bool false] 41)
     have K3:=hZq (below2Z K2.out bz3)
     have D3:=hZq (heldB_up K3.out D0.out)
     have nz3:=hZq ((MapKept.heap_alloc z2 (.cells #[.int .i64 0,.slice none 0 0,.bool false,.int .i64 0,.int .i64 0,.bool false,.int .i64 0,.slice none 0 0,.int .i64 0,.bool false] 41)).1)
     have hB3:w9.heap.size≤z2.heap.size:=(K2.out).size
     replace QX:=hZq (Chgs.later (QX.out) bz3)
     replace TX:=hZq (Tab.later (TX.out) bz3)
     clear bz3
     generalize z2.alloc (.cells #[.int .i64 0,.slice none 0 0,.bool false,.int .i64 0,.int .i64 0,.bool false,.int .i64 0,.slice none 0 0,.int .i64 0,.bool false] 41)=z3 at K3 D3 nz3 QX TX hHeld ⊢
     generalize z2.heap.size=B3 at nz3 hB3  ⊢
     obtain⟨⟨r0,r1,r2,r3,r4,r5,r6,r7,r8,r9⟩,⟨g0,g1,g2,g3,g4,g5,g6,g7,g8,g9⟩⟩:=blk10 nz3.out
     refine wpAnyH_ready (rs:=[13]) (by as_aux_lemma => kernel_rfl) (by simp) ?_
     refine AllReadyH.cons rfl (fun Kx hK => ?_) AllReadyH.nil
     go_simp
     clear r0 r1 r2 r3 r4 r5 r6 r7 r8 r9 g0 g1 g2 g3 g4 g5 g6 g7 g8 g9
     have YB:=hZq (stN10_heap nz3.out (.int .i64 xbs) (.slice xdua xbq.length xduc) (.bool xbl) (.int .i64 xbt) (.int .i64 xba) (.bool xbn) (.int .i64 xbd) (.slice xdta xbc.length xdtc) (.int .i64 xbnn) (.bool xboo))
     have KE:=hZq (stN10_below (K3.out) hB3 (.int .i64 xbs) (.slice xdua xbq.length xduc) (.bool xbl) (.int .i64 xbt) (.int .i64 xba) (.bool xbn) (.int .i64 xbd) (.slice xdta xbc.length xdtc) (.int .i64 xbnn) (.bool xboo))
     have QZ:=hZq (QX.out.nostr (noTx_str (l:=[.int .i64 0,.slice none 0 0,.bool false,.int .i64 0,.int .i64 0,.bool false,.int .i64 0,.slice none 0 0,.int .i64 0,.bool false]) nz3.out rfl) (fun k hk => stN10_far z3 B3 (.int .i64 xbs) (.slice xdua xbq.length xduc) (.bool xbl) (.int .i64 xbt) (.int .i64 xba) (.bool xbn) (.int .i64 xbd) (.slice xdta xbc.length xdtc) (.int .i64 xbnn) (.bool xboo) hk) (stN10_size z3 B3 (.int .i64 xbs) (.slice xdua xbq.length xduc) (.bool xbl) (.int .i64 xbt) (.int .i64 xba) (.bool xbn) (.int .i64 xbd) (.slice xdta xbc.length xdtc) (.int .i64 xbnn) (.bool xboo)))
     have TZ:=hZq (TX.out.nostr (noTx_str (l:=[.int .i64 0,.slice none 0 0,.bool false,.int .i64 0,.int .i64 0,.bool false,.int .i64 0,.slice none 0 0,.int .i64 0,.bool false]) nz3.out rfl) (fun k hk => stN10_far z3 B3 (.int .i64 xbs) (.slice xdua xbq.length xduc) (.bool xbl) (.int .i64 xbt) (.int .i64 xba) (.bool xbn) (.int .i64 xbd) (.slice xdta xbc.length xdtc) (.int .i64 xbnn) (.bool xboo) hk) (stN10_size z3 B3 (.int .i64 xbs) (.slice xdua xbq.length xduc) (.bool xbl) (.int .i64 xbt) (.int .i64 xba) (.bool xbn) (.int .i64 xbd) (.slice xdta xbc.length xdtc) (.int .i64 xbnn) (.bool xboo)))
     refine hK.out _ _ ?_ (fun hHeld2 => ?_)
     ·exact heldB_up KE.out D0.out
     clear hK Kx hHeld
     have hHeld:=hHeld2
     clear hHeld2
     refine wpAnyH_done (by kernel_rfl) ?_ _
     go_wp2_with fail
     go_meet
     exact⟨B3,xdua,xduc,xdta,xdtc,rfl,YB,QZ,TZ,KE⟩
    ·go_simp
     refine hK.out _ _ ?_ (fun hHeld2 => ?_)
     ·exact heldB_up (below2Z K1.out (bl_newZ _ _)) D0.out
     clear hK Kx hHeld
     have hHeld:=hHeld2
     clear hHeld2
     try simp only [Act.put,List.setIfInBounds_toArray,List.set_cons_zero,List.set_cons_succ]
     have bz5:=bl_newZ z1 (.cells #[.int .i64 0,.slice none 0 0,.bool false,.int .i64 0,.int .i64 0,.bool false,.int .i64 0,.slice none 0 0,.int .i64 0,.bool false] 41)
     have K5:=hZq (below2Z K1.out bz5)
     have D5:=hZq (heldB_up K5.out D0.out)
     have nz5:=hZq ((MapKept.heap_alloc z1 (.cells #[.int .i64 0,.slice none 0 0,.bool false,.int .i64 0,.int .i64 0,.bool false,.int .i64 0,.slice none 0 0,.int .i64 0,.bool false] 41)).1)
     have hB5:w9.heap.size≤z1.heap.size:=(K1.out).size
     clear bz5
     generalize z1.alloc (.cells #[.int .i64 0,.slice none 0 0,.bool false,.int .i64 0,.int .i64 0,.bool false,.int .i64 0,.slice none 0 0,.int .i64 0,.bool false] 41)=z5 at K5 D5 nz5 hHeld ⊢
     generalize z1.heap.size=B5 at nz5 hB5  ⊢
     refine wpAnyH_ready (rs:=[11]) (by as_aux_lemma => kernel_rfl) (by simp) ?_
     refine AllReadyH.cons rfl (fun Kx hK => ?_) AllReadyH.nil
     go_simp
     refine (rpsettle (HV.out.later (K5.out)) (HC.out.later (K5.out)) (HT.out.later (K5.out)) s1 s2 s3 s4 s5 ca cb cd ce seq tok at' dg now nn (rounds+more) la sn oo (by omega) (by omega) HD).mono ?_
     rintro e z6 ⟨u,tv,rfl,hU,hT,bz6⟩
     have K6:=hZq (below2Z K5.out bz6)
     have D6:=hZq (heldB_up K6.out D0.out)
     replace nz5:=hZq (((bz6).block _ (Array.getElem?_eq_some_iff.1 (nz5.out)).1).trans (nz5.out))
     obtain⟨xdua,xduc,rfl,-⟩:=hU.open'
     obtain⟨xdta,xdtc,rfl,-⟩:=hT.open'
     have QX:=hZq hU
     have TX:=hZq hT
     clear hU hT
     clear bz6
     go_wp2_with fail
     refine hK.out _ _ ?_ (fun hHeld2 => ?_)
     ·exact D6.out
     clear hK Kx hHeld
     have hHeld:=hHeld2
     clear hHeld2
     try simp only [Act.put,List.setIfInBounds_toArray,List.set_cons_zero,List.set_cons_succ]
     obtain⟨⟨r0,r1,r2,r3,r4,r5,r6,r7,r8,r9⟩,⟨g0,g1,g2,g3,g4,g5,g6,g7,g8,g9⟩⟩:=blk10 nz5.out
     refine wpAnyH_ready (rs:=[13]) (by as_aux_lemma => kernel_rfl) (by simp) ?_
     refine AllReadyH.cons rfl (fun Kx hK => ?_) AllReadyH.nil
     go_simp
     clear r0 r1 r2 r3 r4 r5 r6 r7 r8 r9 g0 g1 g2 g3 g4 g5 g6 g7 g8 g9
     have YB:=hZq (stN10_heap nz5.out (.int .i64 xbs) (.slice xdua xbq.length xduc) (.bool xbl) (.int .i64 xbt) (.int .i64 xba) (.bool xbn) (.int .i64 xbd) (.slice xdta xbc.length xdtc) (.int .i64 xbnn) (.bool xboo))
     have KE:=hZq (stN10_below (K6.out) hB5 (.int .i64 xbs) (.slice xdua xbq.length xduc) (.bool xbl) (.int .i64 xbt) (.int .i64 xba) (.bool xbn) (.int .i64 xbd) (.slice xdta xbc.length xdtc) (.int .i64 xbnn) (.bool xboo))
     have QZ:=hZq (QX.out.nostr (noTx_str (l:=[.int .i64 0,.slice none 0 0,.bool false,.int .i64 0,.int .i64 0,.bool false,.int .i64 0,.slice none 0 0,.int .i64 0,.bool false]) nz5.out rfl) (fun k hk => stN10_far z6 B5 (.int .i64 xbs) (.slice xdua xbq.length xduc) (.bool xbl) (.int .i64 xbt) (.int .i64 xba) (.bool xbn) (.int .i64 xbd) (.slice xdta xbc.length xdtc) (.int .i64 xbnn) (.bool xboo) hk) (stN10_size z6 B5 (.int .i64 xbs) (.slice xdua xbq.length xduc) (.bool xbl) (.int .i64 xbt) (.int .i64 xba) (.bool xbn) (.int .i64 xbd) (.slice xdta xbc.length xdtc) (.int .i64 xbnn) (.bool xboo)))
     have TZ:=hZq (TX.out.nostr (noTx_str (l:=[.int .i64 0,.slice none 0 0,.bool false,.int .i64 0,.int .i64 0,.bool false,.int .i64 0,.slice none 0 0,.int .i64 0,.bool false]) nz5.out rfl) (fun k hk => stN10_far z6 B5 (.int .i64 xbs) (.slice xdua xbq.length xduc) (.bool xbl) (.int .i64 xbt) (.int .i64 xba) (.bool xbn) (.int .i64 xbd) (.slice xdta xbc.length xdtc) (.int .i64 xbnn) (.bool xboo) hk) (stN10_size z6 B5 (.int .i64 xbs) (.slice xdua xbq.length xduc) (.bool xbl) (.int .i64 xbt) (.int .i64 xba) (.bool xbn) (.int .i64 xbd) (.slice xdta xbc.length xdtc) (.int .i64 xbnn) (.bool xboo)))
     refine hK.out _ _ ?_ (fun hHeld2 => ?_)
     ·exact heldB_up KE.out D0.out
     clear hK Kx hHeld
     have hHeld:=hHeld2
     clear hHeld2
     refine wpAnyH_done (by kernel_rfl) ?_ _
     go_wp2_with fail
     go_meet
     exact⟨B5,xdua,xduc,xdta,xdtc,rfl,YB,QZ,TZ,KE⟩
   ·go_simp
    refine hK.out _ _ ?_ (fun hHeld2 => ?_)
    ·exact heldB_up (below2Z K0.out (bl_newZ _ _)) D0.out
    clear hK Kx hHeld
    have hHeld:=hHeld2
    clear hHeld2
    try simp only [Act.put,List.setIfInBounds_toArray,List.set_cons_zero,List.set_cons_succ]
    have bz8:=bl_newZ z0 (.cells #[.int .i64 0,.slice none 0 0,.bool false,.int .i64 0,.int .i64 0,.bool false,.int .i64 0,.slice none 0 0,.int .i64 0,.bool false] 41)
    have K8:=hZq (below2Z K0.out bz8)
    have D8:=hZq (heldB_up K8.out D0.out)
    have nz8:=hZq ((MapKept.heap_alloc z0 (.cells #[.int .i64 0,.slice none 0 0,.bool false,.int .i64 0,.int .i64 0,.bool false,.int .i64 0,.slice none 0 0,.int .i64 0,.bool false] 41)).1)
    have hB8:w9.heap.size≤z0.heap.size:=(K0.out).size
    clear bz8
    generalize z0.alloc (.cells #[.int .i64 0,.slice none 0 0,.bool false,.int .i64 0,.int .i64 0,.bool false,.int .i64 0,.slice none 0 0,.int .i64 0,.bool false] 41)=z8 at K8 D8 nz8 hHeld ⊢
    generalize z0.heap.size=B8 at nz8 hB8  ⊢
    refine wpAnyH_ready (rs:=[2]) (by as_aux_lemma => kernel_rfl) (by simp) ?_
    refine AllReadyH.cons rfl (fun Kx hK => ?_) AllReadyH.nil
    go_simp
    refine (rpmine (HV.out.later (K8.out)) (HC.out.later (K8.out)) seq tok at' dg nn la sn oo).mono ?_
    rintro e z9 ⟨rfl,bz9⟩
    have K9:=hZq (below2Z K8.out bz9)
    have D9:=hZq (heldB_up K9.out D0.out)
    replace nz8:=hZq (((bz9).block _ (Array.getElem?_eq_some_iff.1 (nz8.out)).1).trans (nz8.out))
    clear bz9
    go_wp2_with fail
    refine hK.out _ _ ?_ (fun hHeld2 => ?_)
    ·exact D9.out
    clear hK Kx hHeld
    have hHeld:=hHeld2
    clear hHeld2
    try simp only [Act.put,List.setIfInBounds_toArray,List.set_cons_zero,List.set_cons_succ]
    refine wpAnyH_ready (rs:=[11]) (by as_aux_lemma => kernel_rfl) (by simp) ?_
    refine AllReadyH.cons rfl (fun Kx hK => ?_) AllReadyH.nil
    go_simp
    refine (rpsettle (HV.out.later (K9.out)) (HC.out.later (K9.out)) (HT.out.later (K9.out)) s1 s2 s3 s4 s5 ca cb cd ce seq tok at' dg now nn (rounds+more) la sn oo (by omega) (by omega) HD).mono ?_
    rintro e z10 ⟨u,tv,rfl,hU,hT,bz10⟩
    have K10:=hZq (below2Z K9.out bz10)
    have D10:=hZq (heldB_up K10.out D0.out)
    replace nz8:=hZq (((bz10).block _ (Array.getElem?_eq_some_iff.1 (nz8.out)).1).trans (nz8.out))
    obtain⟨xdua,xduc,rfl,-⟩:=hU.open'
    obtain⟨xdta,xdtc,rfl,-⟩:=hT.open'
    have QX:=hZq hU
    have TX:=hZq hT
    clear hU hT
    clear bz10
    go_wp2_with fail
    refine hK.out _ _ ?_ (fun hHeld2 => ?_)
    ·exact D10.out
    clear hK Kx hHeld
    have hHeld:=hHeld2
    clear hHeld2
    try simp only [Act.put,List.setIfInBounds_toArray,List.set_cons_zero,List.set_cons_succ]
    obtain⟨⟨r0,r1,r2,r3,r4,r5,r6,r7,r8,r9⟩,⟨g0,g1,g2,g3,g4,g5,g6,g7,g8,g9⟩⟩:=blk10 nz8.out
    refine wpAnyH_ready (rs:=[13]) (by as_aux_lemma => kernel_rfl) (by simp) ?_
    refine AllReadyH.cons rfl (fun Kx hK => ?_) AllReadyH.nil
    go_simp
    clear r0 r1 r2 r3 r4 r5 r6 r7 r8 r9 g0 g1 g2 g3 g4 g5 g6 g7 g8 g9
    have YB:=hZq (stN10_heap nz8.out (.int .i64 xbs) (.slice xdua xbq.length xduc) (.bool xbl) (.int .i64 xbt) (.int .i64 xba) (.bool xbn) (.int .i64 xbd) (.slice xdta xbc.length xdtc) (.int .i64 xbnn) (.bool xboo))
    have KE:=hZq (stN10_below (K10.out) hB8 (.int .i64 xbs) (.slice xdua xbq.length xduc) (.bool xbl) (.int .i64 xbt) (.int .i64 xba) (.bool xbn) (.int .i64 xbd) (.slice xdta xbc.length xdtc) (.int .i64 xbnn) (.bool xboo))
    have QZ:=hZq (QX.out.nostr (noTx_str (l:=[.int .i64 0,.slice none 0 0,.bool false,.int .i64 0,.int .i64 0,.bool false,.int .i64 0,.slice none 0 0,.int .i64 0,.bool false]) nz8.out rfl) (fun k hk => stN10_far z10 B8 (.int .i64 xbs) (.slice xdua xbq.length xduc) (.bool xbl) (.int .i64 xbt) (.int .i64 xba) (.bool xbn) (.int .i64 xbd) (.slice xdta xbc.length xdtc) (.int .i64 xbnn) (.bool xboo) hk) (stN10_size z10 B8 (.int .i64 xbs) (.slice xdua xbq.length xduc) (.bool xbl) (.int .i64 xbt) (.int .i64 xba) (.bool xbn) (.int .i64 xbd) (.slice xdta xbc.length xdtc) (.int .i64 xbnn) (.bool xboo)))
    have TZ:=hZq (TX.out.nostr (noTx_str (l:=[.int .i64 0,.slice none 0 0,.bool false,.int .i64 0,.int .i64 0,.bool false,.int .i64 0,.slice none 0 0,.int .i64 0,.bool false]) nz8.out rfl) (fun k hk => stN10_far z10 B8 (.int .i64 xbs) (.slice xdua xbq.length xduc) (.bool xbl) (.int .i64 xbt) (.int .i64 xba) (.bool xbn) (.int .i64 xbd) (.slice xdta xbc.length xdtc) (.int .i64 xbnn) (.bool xboo) hk) (stN10_size z10 B8 (.int .i64 xbs) (.slice xdua xbq.length xduc) (.bool xbl) (.int .i64 xbt) (.int .i64 xba) (.bool xbn) (.int .i64 xbd) (.slice xdta xbc.length xdtc) (.int .i64 xbnn) (.bool xboo)))
    refine hK.out _ _ ?_ (fun hHeld2 => ?_)
    ·exact heldB_up KE.out D0.out
    clear hK Kx hHeld
    have hHeld:=hHeld2
    clear hHeld2
    refine wpAnyH_done (by kernel_rfl) ?_ _
    go_wp2_with fail
    go_meet
    exact⟨B8,xdua,xduc,xdta,xdtc,rfl,YB,QZ,TZ,KE⟩
  case rest =>
   obtain⟨Bxd,xdua,xduc,xdta,xdtc,rfl,LN,QN,TN,KB⟩:=hcut
   obtain⟨w10,hw10⟩ : ∃ X,X=wc:=⟨_,rfl⟩
   subst hw10
   replace GB:=hZq (upQ GB.out KB.out)
   replace XB:=hZq (upQ XB.out KB.out)
   replace VB:=hZq (upQ VB.out KB.out)
   replace Sxa:=hZq (upQ Sxa.out KB.out)
   replace SB_:=hZq (upQ SB_.out KB.out)
   replace HV:=hZq (HV.out.later KB.out)
   replace HC:=hZq (HC.out.later KB.out)
   replace HT:=hZq (HT.out.later KB.out)
   replace Qxa:=hZq (Chgs.later Qxa.out KB.out)
   replace Txa:=hZq (Tab.later Txa.out KB.out)
   replace Qxb:=hZq (Chgs.later Qxb.out KB.out)
   replace Txb:=hZq (Tab.later Txb.out KB.out)
   replace HB:=hZq (below2Z HB.out KB.out)
   clear KB
   have Sxd:=LN
   have Qxd:=QN
   have Txd:=TN
   clear LN QN TN
   go_upto_region 7 with fail
   go_cut [11] from 79 to 86 (fun pp wx => ∃ B xoua xouc xota xotc,pp=.pointer (some ⟨B,0,none⟩)∧Hid (wx.heap[B]?=some (.cells #[.int .i64 xos,.slice xoua xoq.length xouc,.bool xol,.int .i64 xot,.int .i64 xoa,.bool xon,.int .i64 xod,.slice xota xoc.length xotc,.int .i64 xonn,.bool xooo] 41 (0,0)))∧Hid (Chgs wx (.slice xoua xoq.length xouc) xoq)∧Hid (Tab wx (.slice xota xoc.length xotc) xoc)∧Hid (Below w10.heap.size w10 wx))
   case first =>
    obtain⟨BS,hBS⟩ : ∃ BS:List (Nat × List Value),BS=[(w.heap.size,[.int .i64 ca,.int .i64 cb,.int .i64 cd,.int .i64 ce]),(w.heap.size+1,[.int .i64 seq,.slice qa ql.length qc,.bool la,.int .i64 tok,.int .i64 at',.bool sn,.int .i64 dg,.slice ta ct.length tc,.int .i64 nn,.bool oo]),(w.heap.size+1+1,[.slice va view.length vc,.int .i64 now,.int .i64 rounds])]:=⟨_,rfl⟩
    have D0:=hZq (show heldB w10 BS from by rw [hBS]; exact heldB_cons (cellsAt_block GB.out) (heldB_cons (cellsAt_block XB.out) (heldB_cons (cellsAt_block VB.out) (heldB_nil _))))
    have hL:=heldB_at (b:=w.heap.size) (vs:=[.int .i64 ca,.int .i64 cb,.int .i64 cd,.int .i64 ce]) (bs:=BS) (by rw [hBS]; simp)
    have hq0:=hL 0 _ rfl
    have hq1:=hL 1 _ rfl
    have hq2:=hL 2 _ rfl
    have hq3:=hL 3 _ rfl
    clear hL
    have hL:=heldB_at (b:=w.heap.size+1) (vs:=[.int .i64 seq,.slice qa ql.length qc,.bool la,.int .i64 tok,.int .i64 at',.bool sn,.int .i64 dg,.slice ta ct.length tc,.int .i64 nn,.bool oo]) (bs:=BS) (by rw [hBS]; simp)
    have hq4:=hL 0 _ rfl
    have hq5:=hL 1 _ rfl
    have hq6:=hL 2 _ rfl
    have hq7:=hL 3 _ rfl
    have hq8:=hL 4 _ rfl
    have hq9:=hL 5 _ rfl
    have hq10:=hL 6 _ rfl
    have hq11:=hL 7 _ rfl
    have hq12:=hL 8 _ rfl
    have hq13:=hL 9 _ rfl
    clear hL
    have hL:=heldB_at (b:=w.heap.size+1+1) (vs:=[.slice va view.length vc,.int .i64 now,.int .i64 rounds]) (bs:=BS) (by rw [hBS]; simp)
    have hq14:=hL 0 _ rfl
    have hq15:=hL 1 _ rfl
    have hq16:=hL 2 _ rfl
    clear hL
    clear hBS
    have K0:Hid (Below w10.heap.size w10 w10.drew):=hZq (Below.refl _ _).drew
    refine wp_region_held_drew (S:=(fun X => heldB X BS)) (by kernel_rfl) ?_ (fun hHeld => ?_)
    ·exact heldB_up K0.out D0.out
    generalize w10.drew=z0 at K0 hHeld ⊢
    refine tkZ 0 ?_
    refine tkZ 1 ?_
    refine tkZ 3 ?_
    refine tkZ 4 ?_
    refine tkZ 5 ?_
    refine tkZ 6 ?_
    refine wpAnyH_ready (rs:=[2,8]) (by as_aux_lemma => kernel_rfl) (by simp) ?_
    refine AllReadyH.cons rfl (fun Kx hK => ?_) (AllReadyH.cons rfl (fun Kx hK => ?_) (AllReadyH.nil))
    ·go_simp
     refine (rpmine (HV.out.later (K0.out)) (HC.out.later (K0.out)) seq tok at' dg nn la sn oo).mono ?_
     rintro e z1 ⟨rfl,bz1⟩
     have K1:=hZq (below2Z K0.out bz1)
     have D1:=hZq (heldB_up K1.out D0.out)
     clear bz1
     go_wp2_with fail
     refine hK.out _ _ ?_ (fun hHeld2 => ?_)
     ·exact D1.out
     clear hK Kx hHeld
     have hHeld:=hHeld2
     clear hHeld2
     try simp only [Act.put,List.setIfInBounds_toArray,List.set_cons_zero,List.set_cons_succ]
     refine wpAnyH_ready (rs:=[7,8]) (by as_aux_lemma => kernel_rfl) (by simp) ?_
     refine AllReadyH.cons rfl (fun Kx hK => ?_) (AllReadyH.cons rfl (fun Kx hK => ?_) (AllReadyH.nil))
     ·go_simp
      refine (rpsettle (HV.out.later (K1.out)) (HC.out.later (K1.out)) (HT.out.later (K1.out)) s1 s2 s3 s4 s5 ca cb cd ce seq tok at' dg now nn 1 la sn oo (by omega) (by omega) HO).mono ?_
      rintro e z2 ⟨u,tv,rfl,hU,hT,bz2⟩
      have K2:=hZq (below2Z K1.out bz2)
      have D2:=hZq (heldB_up K2.out D0.out)
      obtain⟨xoua,xouc,rfl,-⟩:=hU.open'
      obtain⟨xota,xotc,rfl,-⟩:=hT.open'
      have QX:=hZq hU
      have TX:=hZq hT
      clear hU hT
      clear bz2
      go_wp2_with fail
      refine hK.out _ _ ?_ (fun hHeld2 => ?_)
      ·exact D2.out
      clear hK Kx hHeld
      have hHeld:=hHeld2
      clear hHeld2
      try simp only [Act.put,List.setIfInBounds_toArray,List.set_cons_zero,List.set_cons_succ]
      refine wpAnyH_ready (rs:=[8]) (by as_aux_lemma => kernel_rfl) (by simp) ?_
      refine AllReadyH.cons rfl (fun Kx hK => ?_) AllReadyH.nil
      go_simp
      refine hK.out _ _ ?_ (fun hHeld2 => ?_)
      ·exact heldB_up (below2Z K2.out (bl_newZ _ _)) D0.out
      clear hK Kx hHeld
      have hHeld:=hHeld2
      clear hHeld2
      try simp only [Act.put,List.setIfInBounds_toArray,List.set_cons_zero,List.set_cons_succ]
      have bz3:=bl_newZ z2 (.cells #[.int .i64 0,.slice none 0 0,.bool false,.int .i64 0,.int .i64 0,.bool false,.int .i64 0,.slice none 0 0,.int .i64 0,.bool false] 41)
      have K3:=hZq (below2Z K2.out bz3)
      have D3:=hZq (heldB_up K3.out D0.out)
      have nz3:=hZq ((MapKept.heap_alloc z2 (.cells #[.int .i64 0,.slice none 0 0,.bool false,.int .i64 0,.int .i64 0,.bool false,.int .i64 0,.slice none 0 0,.int .i64 0,.bool false] 41)).1)
      have hB3:w10.heap.size≤z2.heap.size:=(K2.out).size
      replace QX:=hZq (Chgs.later (QX.out) bz3)
      replace TX:=hZq (Tab.later (TX.out) bz3)
      clear bz3
      generalize z2.alloc (.cells #[.int .i64 0,.slice none 0 0,.bool false,.int .i64 0,.int .i64 0,.bool false,.int .i64 0,.slice none 0 0,.int .i64 0,.bool false] 41)=z3 at K3 D3 nz3 QX TX hHeld ⊢
      generalize z2.heap.size=B3 at nz3 hB3  ⊢
      obtain⟨⟨r0,r1,r2,r3,r4,r5,r6,r7,r8,r9⟩,⟨g0,g1,g2,g3,g4,g5,g6,g7,g8,g9⟩⟩:=blk10 nz3.out
      refine wpAnyH_ready (rs:=[9]) (by as_aux_lemma => kernel_rfl) (by simp) ?_
      refine AllReadyH.cons rfl (fun Kx hK => ?_) AllReadyH.nil
      go_simp
      clear r0 r1 r2 r3 r4 r5 r6 r7 r8 r9 g0 g1 g2 g3 g4 g5 g6 g7 g8 g9
      have YB:=hZq (stN10_heap nz3.out (.int .i64 xos) (.slice xoua xoq.length xouc) (.bool xol) (.int .i64 xot) (.int .i64 xoa) (.bool xon) (.int .i64 xod) (.slice xota xoc.length xotc) (.int .i64 xonn) (.bool xooo))
      have KE:=hZq (stN10_below (K3.out) hB3 (.int .i64 xos) (.slice xoua xoq.length xouc) (.bool xol) (.int .i64 xot) (.int .i64 xoa) (.bool xon) (.int .i64 xod) (.slice xota xoc.length xotc) (.int .i64 xonn) (.bool xooo))
      have QZ:=hZq (QX.out.nostr (noTx_str (l:=[.int .i64 0,.slice none 0 0,.bool false,.int .i64 0,.int .i64 0,.bool false,.int .i64 0,.slice none 0 0,.int .i64 0,.bool false]) nz3.out rfl) (fun k hk => stN10_far z3 B3 (.int .i64 xos) (.slice xoua xoq.length xouc) (.bool xol) (.int .i64 xot) (.int .i64 xoa) (.bool xon) (.int .i64 xod) (.slice xota xoc.length xotc) (.int .i64 xonn) (.bool xooo) hk) (stN10_size z3 B3 (.int .i64 xos) (.slice xoua xoq.length xouc) (.bool xol) (.int .i64 xot) (.int .i64 xoa) (.bool xon) (.int .i64 xod) (.slice xota xoc.length xotc) (.int .i64 xonn) (.bool xooo)))
      have TZ:=hZq (TX.out.nostr (noTx_str (l:=[.int .i64 0,.slice none 0 0,.bool false,.int .i64 0,.int .i64 0,.bool false,.int .i64 0,.slice none 0 0,.int .i64 0,.bool false]) nz3.out rfl) (fun k hk => stN10_far z3 B3 (.int .i64 xos) (.slice xoua xoq.length xouc) (.bool xol) (.int .i64 xot) (.int .i64 xoa) (.bool xon) (.int .i64 xod) (.slice xota xoc.length xotc) (.int .i64 xonn) (.bool xooo) hk) (stN10_size z3 B3 (.int .i64 xos) (.slice xoua xoq.length xouc) (.bool xol) (.int .i64 xot) (.int .i64 xoa) (.bool xon) (.int .i64 xod) (.slice xota xoc.length xotc) (.int .i64 xonn) (.bool xooo)))
      refine hK.out _ _ ?_ (fun hHeld2 => ?_)
      ·exact heldB_up KE.out D0.out
      clear hK Kx hHeld
      have hHeld:=hHeld2
      clear hHeld2
      refine wpAnyH_done (by kernel_rfl) ?_ _
      go_wp2_with fail
      go_meet
      exact⟨B3,xoua,xouc,xota,xotc,rfl,YB,QZ,TZ,KE⟩
     ·go_simp
      refine hK.out _ _ ?_ (fun hHeld2 => ?_)
      ·exact heldB_up (below2Z K1.out (bl_newZ _ _)) D0.out
      clear hK Kx hHeld
      have hHeld:=hHeld2
      clear hHeld2
      try simp only [Act.put,List.setIfInBounds_toArray,List.set_cons_zero,List.set_cons_succ]
      have bz5:=bl_newZ z1 (.cells #[.int .i64 0,.slice none 0 0,.bool false,.int .i64 0,.int .i64 0,.bool false,.int .i64 0,.slice none 0 0,.int .i64 0,.bool false] 41)
      have K5:=hZq (below2Z K1.out bz5)
      have D5:=hZq (heldB_up K5.out D0.out)
      have nz5:=hZq ((MapKept.heap_alloc z1 (.cells #[.int .i64 0,.slice none 0 0,.bool false,.int .i64 0,.int .i64 0,.bool false,.int .i64 0,.slice none 0 0,.int .i64 0,.bool false] 41)).1)
      have hB5:w10.heap.size≤z1.heap.size:=(K1.out).size
      clear bz5
      generalize z1.alloc (.cells #[.int .i64 0,.slice none 0 0,.bool false,.int .i64 0,.int .i64 0,.bool false,.int .i64 0,.slice none 0 0,.int .i64 0,.bool false] 41)=z5 at K5 D5 nz5 hHeld ⊢
      generalize z1.heap.size=B5 at nz5 hB5  ⊢
      refine wpAnyH_ready (rs:=[7]) (by as_aux_lemma => kernel_rfl) (by simp) ?_
      refine AllReadyH.cons rfl (fun Kx hK => ?_) AllReadyH.nil
      go_simp
      refine (rpsettle (HV.out.later (K5.out)) (HC.out.later (K5.out)) (HT.out.later (K5.out)) s1 s2 s3 s4 s5 ca cb cd ce seq tok at' dg now nn 1 la sn oo (by omega) (by omega) HO).mono ?_
      rintro e z6 ⟨u,tv,rfl,hU,hT,bz6⟩
      have K6:=hZq (below2Z K5.out bz6)
      have D6:=hZq (heldB_up K6.out D0.out)
      replace nz5:=hZq (((bz6).block _ (Array.getElem?_eq_some_iff.1 (nz5.out)).1).trans (nz5.out))
      obtain⟨xoua,xouc,rfl,-⟩:=hU.open'
      obtain⟨xota,xotc,rfl,-⟩:=hT.open'
      have QX:=hZq hU
      have TX:=hZq hT
      clear hU hT
      clear bz6
      go_wp2_with fail
      refine hK.out _ _ ?_ (fun hHeld2 => ?_)
      ·exact D6.out
      clear hK Kx hHeld
      have hHeld:=hHeld2
      clear hHeld2
      try simp only [Act.put,List.setIfInBounds_toArray,List.set_cons_zero,List.set_cons_succ]
      obtain⟨⟨r0,r1,r2,r3,r4,r5,r6,r7,r8,r9⟩,⟨g0,g1,g2,g3,g4,g5,g6,g7,g8,g9⟩⟩:=blk10 nz5.out
      refine wpAnyH_ready (rs:=[9]) (by as_aux_lemma => kernel_rfl) (by simp) ?_
      refine AllReadyH.cons rfl (fun Kx hK => ?_) AllReadyH.nil
      go_simp
      clear r0 r1 r2 r3 r4 r5 r6 r7 r8 r9 g0 g1 g2 g3 g4 g5 g6 g7 g8 g9
      have YB:=hZq (stN10_heap nz5.out (.int .i64 xos) (.slice xoua xoq.length xouc) (.bool xol) (.int .i64 xot) (.int .i64 xoa) (.bool xon) (.int .i64 xod) (.slice xota xoc.length xotc) (.int .i64 xonn) (.bool xooo))
      have KE:=hZq (stN10_below (K6.out) hB5 (.int .i64 xos) (.slice xoua xoq.length xouc) (.bool xol) (.int .i64 xot) (.int .i64 xoa) (.bool xon) (.int .i64 xod) (.slice xota xoc.length xotc) (.int .i64 xonn) (.bool xooo))
      have QZ:=hZq (QX.out.nostr (noTx_str (l:=[.int .i64 0,.slice none 0 0,.bool false,.int .i64 0,.int .i64 0,.bool false,.int .i64 0,.slice none 0 0,.int .i64 0,.bool false]) nz5.out rfl) (fun k hk => stN10_far z6 B5 (.int .i64 xos) (.slice xoua xoq.length xouc) (.bool xol) (.int .i64 xot) (.int .i64 xoa) (.bool xon) (.int .i64 xod) (.slice xota xoc.length xotc) (.int .i64 xonn) (.bool xooo) hk) (stN10_size z6 B5 (.int .i64 xos) (.slice xoua xoq.length xouc) (.bool xol) (.int .i64 xot) (.int .i64 xoa) (.bool xon) (.int .i64 xod) (.slice xota xoc.length xotc) (.int .i64 xonn) (.bool xooo)))
      have TZ:=hZq (TX.out.nostr (noTx_str (l:=[.int .i64 0,.slice none 0 0,.bool false,.int .i64 0,.int .i64 0,.bool false,.int .i64 0,.slice none 0 0,.int .i64 0,.bool false]) nz5.out rfl) (fun k hk => stN10_far z6 B5 (.int .i64 xos) (.slice xoua xoq.length xouc) (.bool xol) (.int .i64 xot) (.int .i64 xoa) (.bool xon) (.int .i64 xod) (.slice xota xoc.length xotc) (.int .i64 xonn) (.bool xooo) hk) (stN10_size z6 B5 (.int .i64 xos) (.slice xoua xoq.length xouc) (.bool xol) (.int .i64 xot) (.int .i64 xoa) (.bool xon) (.int .i64 xod) (.slice xota xoc.length xotc) (.int .i64 xonn) (.bool xooo)))
      refine hK.out _ _ ?_ (fun hHeld2 => ?_)
      ·exact heldB_up KE.out D0.out
      clear hK Kx hHeld
      have hHeld:=hHeld2
      clear hHeld2
      refine wpAnyH_done (by kernel_rfl) ?_ _
      go_wp2_with fail
      go_meet
      exact⟨B5,xoua,xouc,xota,xotc,rfl,YB,QZ,TZ,KE⟩
    ·go_simp
     refine hK.out _ _ ?_ (fun hHeld2 => ?_)
     ·exact heldB_up (below2Z K0.out (bl_newZ _ _)) D0.out
     clear hK Kx hHeld
     have hHeld:=hHeld2
     clear hHeld2
     try simp only [Act.put,List.setIfInBounds_toArray,List.set_cons_zero,List.set_cons_succ]
     have bz8:=bl_newZ z0 (.cells #[.int .i64 0,.slice none 0 0,.bool false,.int .i64 0,.int .i64 0,.bool false,.int .i64 0,.slice none 0 0,.int .i64 0,.bool false] 41)
     have K8:=hZq (below2Z K0.out bz8)
     have D8:=hZq (heldB_up K8.out D0.out)
     have nz8:=hZq ((MapKept.heap_alloc z0 (.cells #[.int .i64 0,.slice none 0 0,.bool false,.int .i64 0,.int .i64 0,.bool false,.int .i64 0,.slice none 0 0,.int .i64 0,.bool false] 41)).1)
     have hB8:w10.heap.size≤z0.heap.size:=(K0.out).size
     clear bz8
     generalize z0.alloc (.cells #[.int .i64 0,.slice none 0 0,.bool false,.int .i64 0,.int .i64 0,.bool false,.int .i64 0,.slice none 0 0,.int .i64 0,.bool false] 41)=z8 at K8 D8 nz8 hHeld ⊢
     generalize z0.heap.size=B8 at nz8 hB8  ⊢
     refine wpAnyH_ready (rs:=[2]) (by as_aux_lemma => kernel_rfl) (by simp) ?_
     refine AllReadyH.cons rfl (fun Kx hK => ?_) AllReadyH.nil
     go_simp
     refine (rpmine (HV.out.later (K8.out)) (HC.out.later (K8.out)) seq tok at' dg nn la sn oo).mono ?_
     rintro e z9 ⟨rfl,bz9⟩
     have K9:=hZq (below2Z K8.out bz9)
     have D9:=hZq (heldB_up K9.out D0.out)
     replace nz8:=hZq (((bz9).block _ (Array.getElem?_eq_some_iff.1 (nz8.out)).1).trans (nz8.out))
     clear bz9
     go_wp2_with fail
     refine hK.out _ _ ?_ (fun hHeld2 => ?_)
     ·exact D9.out
     clear hK Kx hHeld
     have hHeld:=hHeld2
     clear hHeld2
     try simp only [Act.put,List.setIfInBounds_toArray,List.set_cons_zero,List.set_cons_succ]
     refine wpAnyH_ready (rs:=[7]) (by as_aux_lemma => kernel_rfl) (by simp) ?_
     refine AllReadyH.cons rfl (fun Kx hK => ?_) AllReadyH.nil
     go_simp
     refine (rpsettle (HV.out.later (K9.out)) (HC.out.later (K9.out)) (HT.out.later (K9.out)) s1 s2 s3 s4 s5 ca cb cd ce seq tok at' dg now nn 1 la sn oo (by omega) (by omega) HO).mono ?_
     rintro e z10 ⟨u,tv,rfl,hU,hT,bz10⟩
     have K10:=hZq (below2Z K9.out bz10)
     have D10:=hZq (heldB_up K10.out D0.out)
     replace nz8:=hZq (((bz10).block _ (Array.getElem?_eq_some_iff.1 (nz8.out)).1).trans (nz8.out))
     obtain⟨xoua,xouc,rfl,-⟩:=hU.open'
     obtain⟨xota,xotc,rfl,-⟩:=hT.open'
     have QX:=hZq hU
     have TX:=hZq hT
     clear hU hT
     clear bz10
     go_wp2_with fail
     refine hK.out _ _ ?_ (fun hHeld2 => ?_)
     ·exact D10.out
     clear hK Kx hHeld
     have hHeld:=hHeld2
     clear hHeld2
     try simp only [Act.put,List.setIfInBounds_toArray,List.set_cons_zero,List.set_cons_succ]
     obtain⟨⟨r0,r1,r2,r3,r4,r5,r6,r7,r8,r9⟩,⟨g0,g1,g2,g3,g4,g5,g6,g7,g8,g9⟩⟩:=blk10 nz8.out
     refine wpAnyH_ready (rs:=[9]) (by as_aux_lemma => kernel_rfl) (by simp) ?_
     refine AllReadyH.cons rfl (fun Kx hK => ?_) AllReadyH.nil
     go_simp
     clear r0 r1 r2 r3 r4 r5 r6 r7 r8 r9 g0 g1 g2 g3 g4 g5 g6 g7 g8 g9
     have YB:=hZq (stN10_heap nz8.out (.int .i64 xos) (.slice xoua xoq.length xouc) (.bool xol) (.int .i64 xot) (.int .i64 xoa) (.bool xon) (.int .i64 xod) (.slice xota xoc.length xotc) (.int .i64 xonn) (.bool xooo))
     have KE:=hZq (stN10_below (K10.out) hB8 (.int .i64 xos) (.slice xoua xoq.length xouc) (.bool xol) (.int .i64 xot) (.int .i64 xoa) (.bool xon) (.int .i64 xod) (.slice xota xoc.length xotc) (.int .i64 xonn) (.bool xooo))
     have QZ:=hZq (QX.out.nostr (noTx_str (l:=[.int .i64 0,.slice none 0 0,.bool false,.int .i64 0,.int .i64 0,.bool false,.int .i64 0,.slice none 0 0,.int .i64 0,.bool false]) nz8.out rfl) (fun k hk => stN10_far z10 B8 (.int .i64 xos) (.slice xoua xoq.length xouc) (.bool xol) (.int .i64 xot) (.int .i64 xoa) (.bool xon) (.int .i64 xod) (.slice xota xoc.length xotc) (.int .i64 xonn) (.bool xooo) hk) (stN10_size z10 B8 (.int .i64 xos) (.slice xoua xoq.length xouc) (.bool xol) (.int .i64 xot) (.int .i64 xoa) (.bool xon) (.int .i64 xod) (.slice xota xoc.length xotc) (.int .i64 xonn) (.bool xooo)))
     have TZ:=hZq (TX.out.nostr (noTx_str (l:=[.int .i64 0,.slice none 0 0,.bool false,.int .i64 0,.int .i64 0,.bool false,.int .i64 0,.slice none 0 0,.int .i64 0,.bool false]) nz8.out rfl) (fun k hk => stN10_far z10 B8 (.int .i64 xos) (.slice xoua xoq.length xouc) (.bool xol) (.int .i64 xot) (.int .i64 xoa) (.bool xon) (.int .i64 xod) (.slice xota xoc.length xotc) (.int .i64 xonn) (.bool xooo) hk) (stN10_size z10 B8 (.int .i64 xos) (.slice xoua xoq.length xouc) (.bool xol) (.int .i64 xot) (.int .i64 xoa) (.bool xon) (.int .i64 xod) (.slice xota xoc.length xotc) (.int .i64 xonn) (.bool xooo)))
     refine hK.out _ _ ?_ (fun hHeld2 => ?_)
     ·exact heldB_up KE.out D0.out
     clear hK Kx hHeld
     have hHeld:=hHeld2
     clear hHeld2
     refine wpAnyH_done (by kernel_rfl) ?_ _
     go_wp2_with fail
     go_meet
     exact⟨B8,xoua,xouc,xota,xotc,rfl,YB,QZ,TZ,KE⟩
   case rest =>
    obtain⟨Bxo,xoua,xouc,xota,xotc,rfl,LN,QN,TN,KB⟩:=hcut
    obtain⟨w11,hw11⟩ : ∃ X,X=wc:=⟨_,rfl⟩
    subst hw11
    replace GB:=hZq (upQ GB.out KB.out)
    replace XB:=hZq (upQ XB.out KB.out)
    replace VB:=hZq (upQ VB.out KB.out)
    replace Sxa:=hZq (upQ Sxa.out KB.out)
    replace SB_:=hZq (upQ SB_.out KB.out)
    replace Sxd:=hZq (upQ Sxd.out KB.out)
    replace HV:=hZq (HV.out.later KB.out)
    replace HC:=hZq (HC.out.later KB.out)
    replace HT:=hZq (HT.out.later KB.out)
    replace Qxa:=hZq (Chgs.later Qxa.out KB.out)
    replace Txa:=hZq (Tab.later Txa.out KB.out)
    replace Qxb:=hZq (Chgs.later Qxb.out KB.out)
    replace Txb:=hZq (Tab.later Txb.out KB.out)
    replace Qxd:=hZq (Chgs.later Qxd.out KB.out)
    replace Txd:=hZq (Tab.later Txd.out KB.out)
    replace HB:=hZq (below2Z HB.out KB.out)
    clear KB
    have Sxo:=LN
    have Qxo:=QN
    have Txo:=TN
    clear LN QN TN
    go_upto_region 8 with fail
    go_cut [12] from 87 to 95 (fun pp wx => ∃ B xrua xruc xrta xrtc,pp=.pointer (some ⟨B,0,none⟩)∧Hid (wx.heap[B]?=some (.cells #[.int .i64 xos,.slice xrua xoq.length xruc,.bool xol,.int .i64 xot,.int .i64 xoa,.bool xon,.int .i64 xod,.slice xrta xoc.length xrtc,.int .i64 xonn,.bool xooo] 41 (0,0)))∧Hid (Chgs wx (.slice xrua xoq.length xruc) xoq)∧Hid (Tab wx (.slice xrta xoc.length xrtc) xoc)∧Hid (Below w11.heap.size w11 wx))
    case first =>
     obtain⟨BS,hBS⟩ : ∃ BS:List (Nat × List Value),BS=[(w.heap.size,[.int .i64 ca,.int .i64 cb,.int .i64 cd,.int .i64 ce]),(w.heap.size+1,[.int .i64 seq,.slice qa ql.length qc,.bool la,.int .i64 tok,.int .i64 at',.bool sn,.int .i64 dg,.slice ta ct.length tc,.int .i64 nn,.bool oo]),(w.heap.size+1+1,[.slice va view.length vc,.int .i64 now,.int .i64 rounds])]:=⟨_,rfl⟩
     have D0:=hZq (show heldB w11 BS from by rw [hBS]; exact heldB_cons (cellsAt_block GB.out) (heldB_cons (cellsAt_block XB.out) (heldB_cons (cellsAt_block VB.out) (heldB_nil _))))
     have hL:=heldB_at (b:=w.heap.size) (vs:=[.int .i64 ca,.int .i64 cb,.int .i64 cd,.int .i64 ce]) (bs:=BS) (by rw [hBS]; simp)
     have hq0:=hL 0 _ rfl
     have hq1:=hL 1 _ rfl
     have hq2:=hL 2 _ rfl
     have hq3:=hL 3 _ rfl
     clear hL
     have hL:=heldB_at (b:=w.heap.size+1) (vs:=[.int .i64 seq,.slice qa ql.length qc,.bool la,.int .i64 tok,.int .i64 at',.bool sn,.int .i64 dg,.slice ta ct.length tc,.int .i64 nn,.bool oo]) (bs:=BS) (by rw [hBS]; simp)
     have hq4:=hL 0 _ rfl
     have hq5:=hL 1 _ rfl
     have hq6:=hL 2 _ rfl
     have hq7:=hL 3 _ rfl
     have hq8:=hL 4 _ rfl
     have hq9:=hL 5 _ rfl
     have hq10:=hL 6 _ rfl
     have hq11:=hL 7 _ rfl
     have hq12:=hL 8 _ rfl
     have hq13:=hL 9 _ rfl
     clear hL
     have hL:=heldB_at (b:=w.heap.size+1+1) (vs:=[.slice va view.length vc,.int .i64 now,.int .i64 rounds]) (bs:=BS) (by rw [hBS]; simp)
     have hq14:=hL 0 _ rfl
     have hq15:=hL 1 _ rfl
     have hq16:=hL 2 _ rfl
     clear hL
     clear hBS
     have K0:Hid (Below w11.heap.size w11 w11.drew):=hZq (Below.refl _ _).drew
     refine wp_region_held_drew (S:=(fun X => heldB X BS)) (by kernel_rfl) ?_ (fun hHeld => ?_)
     ·exact heldB_up K0.out D0.out
     generalize w11.drew=z0 at K0 hHeld ⊢
     refine tkZ 0 ?_
     refine tkZ 1 ?_
     refine tkZ 3 ?_
     refine tkZ 4 ?_
     refine tkZ 5 ?_
     refine tkZ 6 ?_
     refine tkZ 7 ?_
     refine wpAnyH_ready (rs:=[2,9]) (by as_aux_lemma => kernel_rfl) (by simp) ?_
     refine AllReadyH.cons rfl (fun Kx hK => ?_) (AllReadyH.cons rfl (fun Kx hK => ?_) (AllReadyH.nil))
     ·go_simp
      refine (rpmine (HV.out.later (K0.out)) (HC.out.later (K0.out)) seq tok at' dg nn la sn oo).mono ?_
      rintro e z1 ⟨rfl,bz1⟩
      have K1:=hZq (below2Z K0.out bz1)
      have D1:=hZq (heldB_up K1.out D0.out)
      clear bz1
      go_wp2_with fail
      refine hK.out _ _ ?_ (fun hHeld2 => ?_)
      ·exact D1.out
      clear hK Kx hHeld
      have hHeld:=hHeld2
      clear hHeld2
      try simp only [Act.put,List.setIfInBounds_toArray,List.set_cons_zero,List.set_cons_succ]
      refine wpAnyH_ready (rs:=[8,9]) (by as_aux_lemma => kernel_rfl) (by simp) ?_
      refine AllReadyH.cons rfl (fun Kx hK => ?_) (AllReadyH.cons rfl (fun Kx hK => ?_) (AllReadyH.nil))
      ·go_simp
       refine (rpround (HV.out.later (K1.out)) (HC.out.later (K1.out)) (HT.out.later (K1.out)) s1 s2 s3 s4 s5 ca cb cd ce seq tok at' dg (now+1) nn la sn oo HR).mono ?_
       rintro e z2 ⟨u,tv,rfl,hU,hT,bz2⟩
       have K2:=hZq (below2Z K1.out bz2)
       have D2:=hZq (heldB_up K2.out D0.out)
       obtain⟨xrua,xruc,rfl,-⟩:=hU.open'
       obtain⟨xrta,xrtc,rfl,-⟩:=hT.open'
       have QX:=hZq hU
       have TX:=hZq hT
       clear hU hT
       clear bz2
       go_wp2_with fail
       refine hK.out _ _ ?_ (fun hHeld2 => ?_)
       ·exact D2.out
       clear hK Kx hHeld
       have hHeld:=hHeld2
       clear hHeld2
       try simp only [Act.put,List.setIfInBounds_toArray,List.set_cons_zero,List.set_cons_succ]
       refine wpAnyH_ready (rs:=[9]) (by as_aux_lemma => kernel_rfl) (by simp) ?_
       refine AllReadyH.cons rfl (fun Kx hK => ?_) AllReadyH.nil
       go_simp
       refine hK.out _ _ ?_ (fun hHeld2 => ?_)
       ·exact heldB_up (below2Z K2.out (bl_newZ _ _)) D0.out
       clear hK Kx hHeld
       have hHeld:=hHeld2
       clear hHeld2
       try simp only [Act.put,List.setIfInBounds_toArray,List.set_cons_zero,List.set_cons_succ]
       have bz3:=bl_newZ z2 (.cells #[.int .i64 0,.slice none 0 0,.bool false,.int .i64 0,.int .i64 0,.bool false,.int .i64 0,.slice none 0 0,.int .i64 0,.bool false] 41)
       have K3:=hZq (below2Z K2.out bz3)
       have D3:=hZq (heldB_up K3.out D0.out)
       have nz3:=hZq ((MapKept.heap_alloc z2 (.cells #[.int .i64 0,.slice none 0 0,.bool false,.int .i64 0,.int .i64 0,.bool false,.int .i64 0,.slice none 0 0,.int .i64 0,.bool false] 41)).1)
       have hB3:w11.heap.size≤z2.heap.size:=(K2.out).size
       replace QX:=hZq (Chgs.later (QX.out) bz3)
       replace TX:=hZq (Tab.later (TX.out) bz3)
       clear bz3
       generalize z2.alloc (.cells #[.int .i64 0,.slice none 0 0,.bool false,.int .i64 0,.int .i64 0,.bool false,.int .i64 0,.slice none 0 0,.int .i64 0,.bool false] 41)=z3 at K3 D3 nz3 QX TX hHeld ⊢
       generalize z2.heap.size=B3 at nz3 hB3  ⊢
       obtain⟨⟨r0,r1,r2,r3,r4,r5,r6,r7,r8,r9⟩,⟨g0,g1,g2,g3,g4,g5,g6,g7,g8,g9⟩⟩:=blk10 nz3.out
       refine wpAnyH_ready (rs:=[10]) (by as_aux_lemma => kernel_rfl) (by simp) ?_
       refine AllReadyH.cons rfl (fun Kx hK => ?_) AllReadyH.nil
       go_simp
       clear r0 r1 r2 r3 r4 r5 r6 r7 r8 r9 g0 g1 g2 g3 g4 g5 g6 g7 g8 g9
       have YB:=hZq (stN10_heap nz3.out (.int .i64 xos) (.slice xrua xoq.length xruc) (.bool xol) (.int .i64 xot) (.int .i64 xoa) (.bool xon) (.int .i64 xod) (.slice xrta xoc.length xrtc) (.int .i64 xonn) (.bool xooo))
       have KE:=hZq (stN10_below (K3.out) hB3 (.int .i64 xos) (.slice xrua xoq.length xruc) (.bool xol) (.int .i64 xot) (.int .i64 xoa) (.bool xon) (.int .i64 xod) (.slice xrta xoc.length xrtc) (.int .i64 xonn) (.bool xooo))
       have QZ:=hZq (QX.out.nostr (noTx_str (l:=[.int .i64 0,.slice none 0 0,.bool false,.int .i64 0,.int .i64 0,.bool false,.int .i64 0,.slice none 0 0,.int .i64 0,.bool false]) nz3.out rfl) (fun k hk => stN10_far z3 B3 (.int .i64 xos) (.slice xrua xoq.length xruc) (.bool xol) (.int .i64 xot) (.int .i64 xoa) (.bool xon) (.int .i64 xod) (.slice xrta xoc.length xrtc) (.int .i64 xonn) (.bool xooo) hk) (stN10_size z3 B3 (.int .i64 xos) (.slice xrua xoq.length xruc) (.bool xol) (.int .i64 xot) (.int .i64 xoa) (.bool xon) (.int .i64 xod) (.slice xrta xoc.length xrtc) (.int .i64 xonn) (.bool xooo)))
       have TZ:=hZq (TX.out.nostr (noTx_str (l:=[.int .i64 0,.slice none 0 0,.bool false,.int .i64 0,.int .i64 0,.bool false,.int .i64 0,.slice none 0 0,.int .i64 0,.bool false]) nz3.out rfl) (fun k hk => stN10_far z3 B3 (.int .i64 xos) (.slice xrua xoq.length xruc) (.bool xol) (.int .i64 xot) (.int .i64 xoa) (.bool xon) (.int .i64 xod) (.slice xrta xoc.length xrtc) (.int .i64 xonn) (.bool xooo) hk) (stN10_size z3 B3 (.int .i64 xos) (.slice xrua xoq.length xruc) (.bool xol) (.int .i64 xot) (.int .i64 xoa) (.bool xon) (.int .i64 xod) (.slice xrta xoc.length xrtc) (.int .i64 xonn) (.bool xooo)))
       refine hK.out _ _ ?_ (fun hHeld2 => ?_)
       ·exact heldB_up KE.out D0.out
       clear hK Kx hHeld
       have hHeld:=hHeld2
       clear hHeld2
       refine wpAnyH_done (by kernel_rfl) ?_ _
       go_wp2_with fail
       go_meet
       exact⟨B3,xrua,xruc,xrta,xrtc,rfl,YB,QZ,TZ,KE⟩
      ·go_simp
       refine hK.out _ _ ?_ (fun hHeld2 => ?_)
       ·exact heldB_up (below2Z K1.out (bl_newZ _ _)) D0.out
       clear hK Kx hHeld
       have hHeld:=hHeld2
       clear hHeld2
       try simp only [Act.put,List.setIfInBounds_toArray,List.set_cons_zero,List.set_cons_succ]
       have bz5:=bl_newZ z1 (.cells #[.int .i64 0,.slice none 0 0,.bool false,.int .i64 0,.int .i64 0,.bool false,.int .i64 0,.slice none 0 0,.int .i64 0,.bool false] 41)
       have K5:=hZq (below2Z K1.out bz5)
       have D5:=hZq (heldB_up K5.out D0.out)
       have nz5:=hZq ((MapKept.heap_alloc z1 (.cells #[.int .i64 0,.slice none 0 0,.bool false,.int .i64 0,.int .i64 0,.bool false,.int .i64 0,.slice none 0 0,.int .i64 0,.bool false] 41)).1)
       have hB5:w11.heap.size≤z1.heap.size:=(K1.out).size
       clear bz5
       generalize z1.alloc (.cells #[.int .i64 0,.slice none 0 0,.bool false,.int .i64 0,.int .i64 0,.bool false,.int .i64 0,.slice none 0 0,.int .i64 0,.bool false] 41)=z5 at K5 D5 nz5 hHeld ⊢
       generalize z1.heap.size=B5 at nz5 hB5  ⊢
       refine wpAnyH_ready (rs:=[8]) (by as_aux_lemma => kernel_rfl) (by simp) ?_
       refine AllReadyH.cons rfl (fun Kx hK => ?_) AllReadyH.nil
       go_simp
       refine (rpround (HV.out.later (K5.out)) (HC.out.later (K5.out)) (HT.out.later (K5.out)) s1 s2 s3 s4 s5 ca cb cd ce seq tok at' dg (now+1) nn la sn oo HR).mono ?_
       rintro e z6 ⟨u,tv,rfl,hU,hT,bz6⟩
       have K6:=hZq (below2Z K5.out bz6)
       have D6:=hZq (heldB_up K6.out D0.out)
       replace nz5:=hZq (((bz6).block _ (Array.getElem?_eq_some_iff.1 (nz5.out)).1).trans (nz5.out))
       obtain⟨xrua,xruc,rfl,-⟩:=hU.open'
       obtain⟨xrta,xrtc,rfl,-⟩:=hT.open'
       have QX:=hZq hU
       have TX:=hZq hT
       clear hU hT
       clear bz6
       go_wp2_with fail
       refine hK.out _ _ ?_ (fun hHeld2 => ?_)
       ·exact D6.out
       clear hK Kx hHeld
       have hHeld:=hHeld2
       clear hHeld2
       try simp only [Act.put,List.setIfInBounds_toArray,List.set_cons_zero,List.set_cons_succ]
       obtain⟨⟨r0,r1,r2,r3,r4,r5,r6,r7,r8,r9⟩,⟨g0,g1,g2,g3,g4,g5,g6,g7,g8,g9⟩⟩:=blk10 nz5.out
       refine wpAnyH_ready (rs:=[10]) (by as_aux_lemma => kernel_rfl) (by simp) ?_
       refine AllReadyH.cons rfl (fun Kx hK => ?_) AllReadyH.nil
       go_simp
       clear r0 r1 r2 r3 r4 r5 r6 r7 r8 r9 g0 g1 g2 g3 g4 g5 g6 g7 g8 g9
       have YB:=hZq (stN10_heap nz5.out (.int .i64 xos) (.slice xrua xoq.length xruc) (.bool xol) (.int .i64 xot) (.int .i64 xoa) (.bool xon) (.int .i64 xod) (.slice xrta xoc.length xrtc) (.int .i64 xonn) (.bool xooo))
       have KE:=hZq (stN10_below (K6.out) hB5 (.int .i64 xos) (.slice xrua xoq.length xruc) (.bool xol) (.int .i64 xot) (.int .i64 xoa) (.bool xon) (.int .i64 xod) (.slice xrta xoc.length xrtc) (.int .i64 xonn) (.bool xooo))
       have QZ:=hZq (QX.out.nostr (noTx_str (l:=[.int .i64 0,.slice none 0 0,.bool false,.int .i64 0,.int .i64 0,.bool false,.int .i64 0,.slice none 0 0,.int .i64 0,.bool false]) nz5.out rfl) (fun k hk => stN10_far z6 B5 (.int .i64 xos) (.slice xrua xoq.length xruc) (.bool xol) (.int .i64 xot) (.int .i64 xoa) (.bool xon) (.int .i64 xod) (.slice xrta xoc.length xrtc) (.int .i64 xonn) (.bool xooo) hk) (stN10_size z6 B5 (.int .i64 xos) (.slice xrua xoq.length xruc) (.bool xol) (.int .i64 xot) (.int .i64 xoa) (.bool xon) (.int .i64 xod) (.slice xrta xoc.length xrtc) (.int .i64 xonn) (.bool xooo)))
       have TZ:=hZq (TX.out.nostr (noTx_str (l:=[.int .i64 0,.slice none 0 0,.bool false,.int .i64 0,.int .i64 0,.bool false,.int .i64 0,.slice none 0 0,.int .i64 0,.bool false]) nz5.out rfl) (fun k hk => stN10_far z6 B5 (.int .i64 xos) (.slice xrua xoq.length xruc) (.bool xol) (.int .i64 xot) (.int .i64 xoa) (.bool xon) (.int .i64 xod) (.slice xrta xoc.length xrtc) (.int .i64 xonn) (.bool xooo) hk) (stN10_size z6 B5 (.int .i64 xos) (.slice xrua xoq.length xruc) (.bool xol) (.int .i64 xot) (.int .i64 xoa) (.bool xon) (.int .i64 xod) (.slice xrta xoc.length xrtc) (.int .i64 xonn) (.bool xooo)))
       refine hK.out _ _ ?_ (fun hHeld2 => ?_)
       ·exact heldB_up KE.out D0.out
       clear hK Kx hHeld
       have hHeld:=hHeld2
       clear hHeld2
       refine wpAnyH_done (by kernel_rfl) ?_ _
       go_wp2_with fail
       go_meet
       exact⟨B5,xrua,xruc,xrta,xrtc,rfl,YB,QZ,TZ,KE⟩
     ·go_simp
      refine hK.out _ _ ?_ (fun hHeld2 => ?_)
      ·exact heldB_up (below2Z K0.out (bl_newZ _ _)) D0.out
      clear hK Kx hHeld
      have hHeld:=hHeld2
      clear hHeld2
      try simp only [Act.put,List.setIfInBounds_toArray,List.set_cons_zero,List.set_cons_succ]
      have bz8:=bl_newZ z0 (.cells #[.int .i64 0,.slice none 0 0,.bool false,.int .i64 0,.int .i64 0,.bool false,.int .i64 0,.slice none 0 0,.int .i64 0,.bool false] 41)
      have K8:=hZq (below2Z K0.out bz8)
      have D8:=hZq (heldB_up K8.out D0.out)
      have nz8:=hZq ((MapKept.heap_alloc z0 (.cells #[.int .i64 0,.slice none 0 0,.bool false,.int .i64 0,.int .i64 0,.bool false,.int .i64 0,.slice none 0 0,.int .i64 0,.bool false] 41)).1)
      have hB8:w11.heap.size≤z0.heap.size:=(K0.out).size
      clear bz8
      generalize z0.alloc (.cells #[.int .i64 0,.slice none 0 0,.bool false,.int .i64 0,.int .i64 0,.bool false,.int .i64 0,.slice none 0 0,.int .i64 0,.bool false] 41)=z8 at K8 D8 nz8 hHeld ⊢
      generalize z0.heap.size=B8 at nz8 hB8  ⊢
      refine wpAnyH_ready (rs:=[2]) (by as_aux_lemma => kernel_rfl) (by simp) ?_
      refine AllReadyH.cons rfl (fun Kx hK => ?_) AllReadyH.nil
      go_simp
      refine (rpmine (HV.out.later (K8.out)) (HC.out.later (K8.out)) seq tok at' dg nn la sn oo).mono ?_
      rintro e z9 ⟨rfl,bz9⟩
      have K9:=hZq (below2Z K8.out bz9)
      have D9:=hZq (heldB_up K9.out D0.out)
      replace nz8:=hZq (((bz9).block _ (Array.getElem?_eq_some_iff.1 (nz8.out)).1).trans (nz8.out))
      clear bz9
      go_wp2_with fail
      refine hK.out _ _ ?_ (fun hHeld2 => ?_)
      ·exact D9.out
      clear hK Kx hHeld
      have hHeld:=hHeld2
      clear hHeld2
      try simp only [Act.put,List.setIfInBounds_toArray,List.set_cons_zero,List.set_cons_succ]
      refine wpAnyH_ready (rs:=[8]) (by as_aux_lemma => kernel_rfl) (by simp) ?_
      refine AllReadyH.cons rfl (fun Kx hK => ?_) AllReadyH.nil
      go_simp
      refine (rpround (HV.out.later (K9.out)) (HC.out.later (K9.out)) (HT.out.later (K9.out)) s1 s2 s3 s4 s5 ca cb cd ce seq tok at' dg (now+1) nn la sn oo HR).mono ?_
      rintro e z10 ⟨u,tv,rfl,hU,hT,bz10⟩
      have K10:=hZq (below2Z K9.out bz10)
      have D10:=hZq (heldB_up K10.out D0.out)
      replace nz8:=hZq (((bz10).block _ (Array.getElem?_eq_some_iff.1 (nz8.out)).1).trans (nz8.out))
      obtain⟨xrua,xruc,rfl,-⟩:=hU.open'
      obtain⟨xrta,xrtc,rfl,-⟩:=hT.open'
      have QX:=hZq hU
      have TX:=hZq hT
      clear hU hT
      clear bz10
      go_wp2_with fail
      refine hK.out _ _ ?_ (fun hHeld2 => ?_)
      ·exact D10.out
      clear hK Kx hHeld
      have hHeld:=hHeld2
      clear hHeld2
      try simp only [Act.put,List.setIfInBounds_toArray,List.set_cons_zero,List.set_cons_succ]
      obtain⟨⟨r0,r1,r2,r3,r4,r5,r6,r7,r8,r9⟩,⟨g0,g1,g2,g3,g4,g5,g6,g7,g8,g9⟩⟩:=blk10 nz8.out
      refine wpAnyH_ready (rs:=[10]) (by as_aux_lemma => kernel_rfl) (by simp) ?_
      refine AllReadyH.cons rfl (fun Kx hK => ?_) AllReadyH.nil
      go_simp
      clear r0 r1 r2 r3 r4 r5 r6 r7 r8 r9 g0 g1 g2 g3 g4 g5 g6 g7 g8 g9
      have YB:=hZq (stN10_heap nz8.out (.int .i64 xos) (.slice xrua xoq.length xruc) (.bool xol) (.int .i64 xot) (.int .i64 xoa) (.bool xon) (.int .i64 xod) (.slice xrta xoc.length xrtc) (.int .i64 xonn) (.bool xooo))
      have KE:=hZq (stN10_below (K10.out) hB8 (.int .i64 xos) (.slice xrua xoq.length xruc) (.bool xol) (.int .i64 xot) (.int .i64 xoa) (.bool xon) (.int .i64 xod) (.slice xrta xoc.length xrtc) (.int .i64 xonn) (.bool xooo))
      have QZ:=hZq (QX.out.nostr (noTx_str (l:=[.int .i64 0,.slice none 0 0,.bool false,.int .i64 0,.int .i64 0,.bool false,.int .i64 0,.slice none 0 0,.int .i64 0,.bool false]) nz8.out rfl) (fun k hk => stN10_far z10 B8 (.int .i64 xos) (.slice xrua xoq.length xruc) (.bool xol) (.int .i64 xot) (.int .i64 xoa) (.bool xon) (.int .i64 xod) (.slice xrta xoc.length xrtc) (.int .i64 xonn) (.bool xooo) hk) (stN10_size z10 B8 (.int .i64 xos) (.slice xrua xoq.length xruc) (.bool xol) (.int .i64 xot) (.int .i64 xoa) (.bool xon) (.int .i64 xod) (.slice xrta xoc.length xrtc) (.int .i64 xonn) (.bool xooo)))
      have TZ:=hZq (TX.out.nostr (noTx_str (l:=[.int .i64 0,.slice none 0 0,.bool false,.int .i64 0,.int .i64 0,.bool false,.int .i64 0,.slice none 0 0,.int .i64 0,.bool false]) nz8.out rfl) (fun k hk => stN10_far z10 B8 (.int .i64 xos) (.slice xrua xoq.length xruc) (.bool xol) (.int .i64 xot) (.int .i64 xoa) (.bool xon) (.int .i64 xod) (.slice xrta xoc.length xrtc) (.int .i64 xonn) (.bool xooo) hk) (stN10_size z10 B8 (.int .i64 xos) (.slice xrua xoq.length xruc) (.bool xol) (.int .i64 xot) (.int .i64 xoa) (.bool xon) (.int .i64 xod) (.slice xrta xoc.length xrtc) (.int .i64 xonn) (.bool xooo)))
      refine hK.out _ _ ?_ (fun hHeld2 => ?_)
      ·exact heldB_up KE.out D0.out
      clear hK Kx hHeld
      have hHeld:=hHeld2
      clear hHeld2
      refine wpAnyH_done (by kernel_rfl) ?_ _
      go_wp2_with fail
      go_meet
      exact⟨B8,xrua,xruc,xrta,xrtc,rfl,YB,QZ,TZ,KE⟩
    case rest =>
     obtain⟨Bxr,xrua,xruc,xrta,xrtc,rfl,LN,QN,TN,KB⟩:=hcut
     obtain⟨w12,hw12⟩ : ∃ X,X=wc:=⟨_,rfl⟩
     subst hw12
     replace GB:=hZq (upQ GB.out KB.out)
     replace XB:=hZq (upQ XB.out KB.out)
     replace VB:=hZq (upQ VB.out KB.out)
     replace Sxa:=hZq (upQ Sxa.out KB.out)
     replace SB_:=hZq (upQ SB_.out KB.out)
     replace Sxd:=hZq (upQ Sxd.out KB.out)
     replace Sxo:=hZq (upQ Sxo.out KB.out)
     replace HV:=hZq (HV.out.later KB.out)
     replace HC:=hZq (HC.out.later KB.out)
     replace HT:=hZq (HT.out.later KB.out)
     replace Qxa:=hZq (Chgs.later Qxa.out KB.out)
     replace Txa:=hZq (Tab.later Txa.out KB.out)
     replace Qxb:=hZq (Chgs.later Qxb.out KB.out)
     replace Txb:=hZq (Tab.later Txb.out KB.out)
     replace Qxd:=hZq (Chgs.later Qxd.out KB.out)
     replace Txd:=hZq (Tab.later Txd.out KB.out)
     replace Qxo:=hZq (Chgs.later Qxo.out KB.out)
     replace Txo:=hZq (Tab.later Txo.out KB.out)
     replace HB:=hZq (below2Z HB.out KB.out)
     clear KB
     have Sxr:=LN
     have Qxr:=QN
     have Txr:=TN
     clear LN QN TN
     have HSM:∀ (t:List Row) (n:Int) (o:Bool),Hid (clSame ⟨t,n,o⟩ ⟨t,n,o⟩=true):=fun t n o => hZq (by unfold clSame; simp [tSame_iff.2])
     go_wp2_with (first | (with_reducible refine ldA aggLink _ rfl rfl (BSB_) 0 rfl SB_.out [.int .i64 xbs,.slice xbua xbq.length xbuc,.bool xbl,.int .i64 xbt,.int .i64 xba,.bool xbn,.int .i64 xbd] rfl rfl ?_) | (with_reducible refine ldA aggLink _ rfl rfl (Bxd) 0 rfl Sxd.out [.int .i64 xbs,.slice xdua xbq.length xduc,.bool xbl,.int .i64 xbt,.int .i64 xba,.bool xbn,.int .i64 xbd] rfl rfl ?_))
     refine (rlsame_yes Qxb.out Qxd.out xbl xbn xbs xbt xba xbd).mono ?_
     rintro e w13 ⟨rfl,b13⟩
     replace GB:=hZq (upQ GB.out b13)
     replace XB:=hZq (upQ XB.out b13)
     replace VB:=hZq (upQ VB.out b13)
     replace Sxa:=hZq (upQ Sxa.out b13)
     replace SB_:=hZq (upQ SB_.out b13)
     replace Sxd:=hZq (upQ Sxd.out b13)
     replace Sxo:=hZq (upQ Sxo.out b13)
     replace Sxr:=hZq (upQ Sxr.out b13)
     replace HV:=hZq (HV.out.later b13)
     replace HC:=hZq (HC.out.later b13)
     replace HT:=hZq (HT.out.later b13)
     replace Qxa:=hZq (Chgs.later Qxa.out b13)
     replace Txa:=hZq (Tab.later Txa.out b13)
     replace Qxb:=hZq (Chgs.later Qxb.out b13)
     replace Txb:=hZq (Tab.later Txb.out b13)
     replace Qxd:=hZq (Chgs.later Qxd.out b13)
     replace Txd:=hZq (Tab.later Txd.out b13)
     replace Qxo:=hZq (Chgs.later Qxo.out b13)
     replace Txo:=hZq (Tab.later Txo.out b13)
     replace Qxr:=hZq (Chgs.later Qxr.out b13)
     replace Txr:=hZq (Tab.later Txr.out b13)
     replace HB:=hZq (below2Z HB.out b13)
     clear b13
     go_wp2_with (first | (with_reducible refine ldG aggCli _ rfl rfl (BSB_) 7 rfl SB_.out [.slice xbta xbc.length xbtc,.int .i64 xbnn,.bool xboo] rfl rfl ?_) | (with_reducible refine ldG aggCli _ rfl rfl (Bxd) 7 rfl Sxd.out [.slice xdta xbc.length xdtc,.int .i64 xbnn,.bool xboo] rfl rfl ?_))
     refine (rclsame_eq Txb.out Txd.out xbnn xbnn xboo xboo (HSM _ _ _)).mono ?_
     rintro e w14 ⟨rfl,b14⟩
     replace GB:=hZq (upQ GB.out b14)
     replace XB:=hZq (upQ XB.out b14)
     replace VB:=hZq (upQ VB.out b14)
     replace Sxa:=hZq (upQ Sxa.out b14)
     replace SB_:=hZq (upQ SB_.out b14)
     replace Sxd:=hZq (upQ Sxd.out b14)
     replace Sxo:=hZq (upQ Sxo.out b14)
     replace Sxr:=hZq (upQ Sxr.out b14)
     replace HV:=hZq (HV.out.later b14)
     replace HC:=hZq (HC.out.later b14)
     replace HT:=hZq (HT.out.later b14)
     replace Qxa:=hZq (Chgs.later Qxa.out b14)
     replace Txa:=hZq (Tab.later Txa.out b14)
     replace Qxb:=hZq (Chgs.later Qxb.out b14)
     replace Txb:=hZq (Tab.later Txb.out b14)
     replace Qxd:=hZq (Chgs.later Qxd.out b14)
     replace Txd:=hZq (Tab.later Txd.out b14)
     replace Qxo:=hZq (Chgs.later Qxo.out b14)
     replace Txo:=hZq (Tab.later Txo.out b14)
     replace Qxr:=hZq (Chgs.later Qxr.out b14)
     replace Txr:=hZq (Tab.later Txr.out b14)
     replace HB:=hZq (below2Z HB.out b14)
     clear b14
     go_wp2_with (first | (with_reducible refine ldG aggLink _ rfl rfl (Bxo) 0 rfl Sxo.out [.int .i64 xos,.slice xoua xoq.length xouc,.bool xol,.int .i64 xot,.int .i64 xoa,.bool xon,.int .i64 xod] rfl rfl ?_) | (with_reducible refine ldG aggLink _ rfl rfl (Bxr) 0 rfl Sxr.out [.int .i64 xos,.slice xrua xoq.length xruc,.bool xol,.int .i64 xot,.int .i64 xoa,.bool xon,.int .i64 xod] rfl rfl ?_))
     refine (rlsame_yes Qxo.out Qxr.out xol xon xos xot xoa xod).mono ?_
     rintro e w15 ⟨rfl,b15⟩
     replace GB:=hZq (upQ GB.out b15)
     replace XB:=hZq (upQ XB.out b15)
     replace VB:=hZq (upQ VB.out b15)
     replace Sxa:=hZq (upQ Sxa.out b15)
     replace SB_:=hZq (upQ SB_.out b15)
     replace Sxd:=hZq (upQ Sxd.out b15)
     replace Sxo:=hZq (upQ Sxo.out b15)
     replace Sxr:=hZq (upQ Sxr.out b15)
     replace HV:=hZq (HV.out.later b15)
     replace HC:=hZq (HC.out.later b15)
     replace HT:=hZq (HT.out.later b15)
     replace Qxa:=hZq (Chgs.later Qxa.out b15)
     replace Txa:=hZq (Tab.later Txa.out b15)
     replace Qxb:=hZq (Chgs.later Qxb.out b15)
     replace Txb:=hZq (Tab.later Txb.out b15)
     replace Qxd:=hZq (Chgs.later Qxd.out b15)
     replace Txd:=hZq (Tab.later Txd.out b15)
     replace Qxo:=hZq (Chgs.later Qxo.out b15)
     replace Txo:=hZq (Tab.later Txo.out b15)
     replace Qxr:=hZq (Chgs.later Qxr.out b15)
     replace Txr:=hZq (Tab.later Txr.out b15)
     replace HB:=hZq (below2Z HB.out b15)
     clear b15
     go_wp2_with (first | (with_reducible refine ldG aggCli _ rfl rfl (Bxo) 7 rfl Sxo.out [.slice xota xoc.length xotc,.int .i64 xonn,.bool xooo] rfl rfl ?_) | (with_reducible refine ldG aggCli _ rfl rfl (Bxr) 7 rfl Sxr.out [.slice xrta xoc.length xrtc,.int .i64 xonn,.bool xooo] rfl rfl ?_))
     refine (rclsame_eq Txo.out Txr.out xonn xonn xooo xooo (HSM _ _ _)).mono ?_
     rintro e w16 ⟨rfl,b16⟩
     replace GB:=hZq (upQ GB.out b16)
     replace XB:=hZq (upQ XB.out b16)
     replace VB:=hZq (upQ VB.out b16)
     replace Sxa:=hZq (upQ Sxa.out b16)
     replace SB_:=hZq (upQ SB_.out b16)
     replace Sxd:=hZq (upQ Sxd.out b16)
     replace Sxo:=hZq (upQ Sxo.out b16)
     replace Sxr:=hZq (upQ Sxr.out b16)
     replace HV:=hZq (HV.out.later b16)
     replace HC:=hZq (HC.out.later b16)
     replace HT:=hZq (HT.out.later b16)
     replace Qxa:=hZq (Chgs.later Qxa.out b16)
     replace Txa:=hZq (Tab.later Txa.out b16)
     replace Qxb:=hZq (Chgs.later Qxb.out b16)
     replace Txb:=hZq (Tab.later Txb.out b16)
     replace Qxd:=hZq (Chgs.later Qxd.out b16)
     replace Txd:=hZq (Tab.later Txd.out b16)
     replace Qxo:=hZq (Chgs.later Qxo.out b16)
     replace Txo:=hZq (Tab.later Txo.out b16)
     replace Qxr:=hZq (Chgs.later Qxr.out b16)
     replace Txr:=hZq (Tab.later Txr.out b16)
     replace HB:=hZq (below2Z HB.out b16)
     clear b16
     go_wp2_with fail
     refine (live20 _).mono ?_
     rintro e w17 ⟨rfl,b17⟩
     replace HB:=hZq (below2Z HB.out b17)
     clear b17
     go_wp2_with fail
     go_ret
     exact⟨rfl,HB.out⟩

theorem walkRepairSplit {w:World} (c:Cfg) (_:CfgFit c) (seq:Int) (v:Value) (la:Bool) (tok at':Int) (sn:Bool) (dg:Int) (cv:Value) (nn:Int) (oo:Bool) (_:(Lit.int .i64 seq).wf=true) (hq:∃ t:List Chg,Chgs w v t) (_:(Lit.int .i64 tok).wf=true) (_:(Lit.int .i64 at').wf=true) (_:(Lit.int .i64 dg).wf=true) (hct:∃ t:List Row,Tab w cv t) (_:(Lit.int .i64 nn).wf=true) (vv:Value) (now rounds:Int) (hvt:∃ t:List Row,Tab w vv t) (_:(Lit.int .i64 now).wf=true) (_:(Lit.int .i64 rounds).wf=true) :
  Calls Tryz.prog 8 #[.agg #[.int .i64 c.room,.int .i64 c.burst,.int .i64 c.rate,.int .i64 c.per],.agg #[.int .i64 seq,v,.bool la,.int .i64 tok,.int .i64 at',.bool sn,.int .i64 dg,cv,.int .i64 nn,.bool oo],.agg #[vv,.int .i64 now,.int .i64 rounds]] w fun e w' => e=.returned (.bool true)∧Below w.heap.size w w':=by
 obtain⟨ql,hv⟩:=hq
 obtain⟨ct,hc⟩:=hct
 obtain⟨view,ht⟩:=hvt
 cases hf:fewC ql 30 && fewT ct with
 | false => exact rsp_a hv hc ht c.room c.burst c.rate c.per seq tok at' dg nn now rounds la sn oo (hZq hf)
 | true =>
  cases hg:fewT view with
  | false => exact rsp_b hv hc ht c.room c.burst c.rate c.per seq tok at' dg nn now rounds la sn oo (hZq hf) (hZq hg)
  | true =>
   by_cases hb:0≤rounds∧rounds≤20∧-1125899906842624≤now∧now≤1125899906842624
   ·obtain⟨⟨⟨xas,⟨xaq,xal⟩,⟨xat,xaa⟩,xan,xad⟩,⟨xac,xann,xaoo⟩⟩,h1⟩ : ∃ x,rpSettle ⟨c.room,c.burst,c.rate,c.per⟩ view (min (rounds:Int) 3000).toNat now (⟨seq,⟨ql,la⟩,⟨tok,at'⟩,sn,dg⟩,(⟨ct,nn,oo⟩ : Cli))=x:=⟨_,rfl⟩
    obtain⟨⟨⟨xbs,⟨xbq,xbl⟩,⟨xbt,xba⟩,xbn,xbd⟩,⟨xbc,xbnn,xboo⟩⟩,h2⟩ : ∃ x,rpSettle ⟨c.room,c.burst,c.rate,c.per⟩ view (min ((rounds.tdiv 2):Int) 3000).toNat (now+rounds) (⟨xas,⟨xaq,xal⟩,⟨xat,xaa⟩,xan,xad⟩,(⟨xac,xann,xaoo⟩ : Cli))=x:=⟨_,rfl⟩
    obtain⟨⟨⟨xos,⟨xoq,xol⟩,⟨xot,xoa⟩,xon,xod⟩,⟨xoc,xonn,xooo⟩⟩,h3⟩ : ∃ x,rpSettle ⟨c.room,c.burst,c.rate,c.per⟩ view (min (1:Int) 3000).toNat now (⟨seq,⟨ql,la⟩,⟨tok,at'⟩,sn,dg⟩,(⟨ct,nn,oo⟩ : Cli))=x:=⟨_,rfl⟩
    have hm:0≤rounds.tdiv 2∧rounds.tdiv 2≤10:=by rw [Int.tdiv_eq_ediv_of_nonneg (by omega)]; omega
    have h4:rpSettle ⟨c.room,c.burst,c.rate,c.per⟩ view (min ((rounds+rounds.tdiv 2):Int) 3000).toNat now (⟨seq,⟨ql,la⟩,⟨tok,at'⟩,sn,dg⟩,(⟨ct,nn,oo⟩ : Cli))=(⟨xbs,⟨xbq,xbl⟩,⟨xbt,xba⟩,xbn,xbd⟩,(⟨xbc,xbnn,xboo⟩ : Cli)):=by
     rw [← h2,← h1,show (min (rounds+rounds.tdiv 2) 3000).toNat=(min rounds 3000).toNat+(min (rounds.tdiv 2) 3000).toNat by omega,rpSettle_add]
     congr 1
     omega
    have h5:rpRound ⟨c.room,c.burst,c.rate,c.per⟩ view (now+1) (⟨seq,⟨ql,la⟩,⟨tok,at'⟩,sn,dg⟩,(⟨ct,nn,oo⟩ : Cli))=(⟨xos,⟨xoq,xol⟩,⟨xot,xoa⟩,xon,xod⟩,(⟨xoc,xonn,xooo⟩ : Cli)):=by
     rw [← h3]
     rfl
    exact rsp_d hv hc ht c.room c.burst c.rate c.per seq tok at' dg nn now rounds la sn oo (hZq hf) (hZq hg) hb (hZq rfl) (hZq h1) (hZq h2) (hZq h4) (hZq h3) (hZq h5)
   ·exact rsp_c hv hc ht c.room c.burst c.rate c.per seq tok at' dg nn now rounds la sn oo (hZq hf) (hZq hg) (by omega)

end Go.Proofs.YtmpigdokghngiaaGreat
end

section
namespace Go.Proofs.YtmpigdokghngiaaGreat.repairSplit
open Go.ChangeShapes Go.WideShapes Go.ChangeAt Go.RowKit
open Go.ChangeMaps (open_string shut_string)
set_option linter.unusedVariables false

theorem own:ownKnob Tryz.prog.godebug=none:=by kernel_rfl
theorem laidOut:laidOutB Tryz.prog=true:=by kernel_rfl

theorem lifted (os:Os) (started:os.Started) (H:Type) (enc:TypeId × Value→H) :
  ReturnsInHanded {} Tryz.checked os 8 .any (Rows.repairSplitSpec.pre6 enc Tryz.prog Tryz.f8 Rows.repairSplitRow.domain false) (Rows.repairSplitSpec.post enc Tryz.prog Tryz.f8 false true false false):=by
 refine returnsInHanded_of_change (C:=Tryz.checked) own started (by kernel_rfl) Tryz.func8
  (ChangeSpec.witness6 (enc:=enc) (C:=Tryz.checked) false ⟨#[],#[.agg #[.int .i64 0,.int .i64 0,.int .i64 0,.int .i64 0],.agg #[.int .i64 0,.slice none 0 0,.bool false,.int .i64 0,.int .i64 0,.bool false,.int .i64 0,.slice none 0 0,.int .i64 0,.bool false],.agg #[.slice none 0 0,.int .i64 0,.int .i64 0]],[]⟩ 8 (by kernel_rfl) (by kernel_rfl) (by kernel_rfl) (by kernel_rfl)) ?_
 intro W base args ds gs before hval0 hW hcnd _
 have hval:∀ (j:Nat) t v,Tryz.f8.params[j]?=some t→args[j]?=some v→Value.okWide Tryz.prog W .any base t v:=hval0
 have hW':=hW
 obtain⟨p,q,hA0,hV,rfl,hfz,hnd⟩:=hW
 have hA:DataW.TrodAll enc Tryz.prog W 0 (fun _ => true) true Tryz.f8.params.toList args.toList ds p:=hA0
 rw [Tryz.params8] at hA hval
 obtain⟨v0,vs0,d0,ds0,p0,q0,hargs,rfl,rfl,h0,r0⟩:=trodAll_cons hA
 obtain⟨v1,vs1,d1,ds1,p1,q1,rfl,rfl,rfl,h1,r1⟩:=trodAll_cons r0
 obtain⟨v2,vs2,d2,ds2,p2,q2,rfl,rfl,rfl,h2,r2⟩:=trodAll_cons r1
 obtain⟨rfl,rfl,rfl⟩:=trodAll_nil r2
 obtain rfl:args=#[v0,v1,v2]:=by cases args; simp_all
 obtain⟨rfl,rfl⟩:=trodVars_none hV
 have k0:=h0
 have lt0:∀ x ∈ p0,x.block < W.heap.size:=by obtain⟨m,hm⟩:=k0; exact DataW.trod_lt m _ _ _ hm
 obtain⟨a0,rfl,w0⟩:=open_cfg (hval 0 23 v0 rfl rfl) h0
 have k1:=h1
 have lt1:∀ x ∈ p1,x.block < W.heap.size:=by obtain⟨m,hm⟩:=k1; exact DataW.trod_lt m _ _ _ hm
 obtain⟨g1_0,g1_1,g1_2,g1_3,g1_4,g1_5,g1_6,g1_7,g1_8,g1_9,rfl,y1_0,y1_1,y1_2,y1_3,y1_4,y1_5,y1_6⟩:=open_rside (hval 1 35 v1 rfl rfl) h1
 have k2:=h2
 have lt2:∀ x ∈ p2,x.block < W.heap.size:=by obtain⟨m,hm⟩:=k2; exact DataW.trod_lt m _ _ _ hm
 obtain⟨g2_0,g2_1,g2_2,rfl,y2_0,y2_1,y2_2⟩:=open_rview (hval 2 37 v2 rfl rfl) h2
 clear hA0 hval0
 refine (walkRepairSplit (w:=W) a0 w0 g1_0 g1_1 g1_2 g1_3 g1_4 g1_5 g1_6 g1_7 g1_8 g1_9 y1_0 y1_1 y1_2 y1_3 y1_4 y1_5 y1_6 g2_0 g2_1 g2_2 y2_0 y2_1 y2_2).mono fun e W' ⟨he,bel⟩ => ?_
 subst he
 exact⟨_,rfl,_,_,_,[],_,[],hW',trodAll_mk1 (shut_bool Tryz.underlying4 _),(trodAll_cons_mk (Below.trod laidOut (by kernel_rfl) (of_decide_eq_true (by kernel_rfl)) k0 bel lt0) (trodAll_cons_mk (Below.trod laidOut (by kernel_rfl) (of_decide_eq_true (by kernel_rfl)) k1 bel lt1) (trodAll_cons_mk (Below.trod laidOut (by kernel_rfl) (of_decide_eq_true (by kernel_rfl)) k2 bel lt2) trodAll_mk0))),rfl,bel.frame _,fun h => by cases h⟩

theorem over:Rows.repairSplitRow.holds Tryz.pinned (OpenSpec.ofChange Rows.repairSplitSpec) :=
 OpenClaim.holds_of_wide 8 Tryz.f8 rfl rfl rfl rfl rfl rfl rfl ⟨rfl,rfl,rfl,rfl,rfl⟩ rfl rfl rfl rfl rfl (by kernel_rfl) Tryz.func8 (by kernel_rfl)
  (of_decide_eq_true (by kernel_rfl)) (by unfold Func.isWrapper; first | (rw [if_pos (by decide +kernel)]; kernel_rfl) | (rw [if_neg (by decide +kernel)]; exact⟨rfl,rfl⟩))
  (fun os started H enc _ => lifted os started H enc)

theorem proved:Rows.RepairSplitSaid:=over
#print axioms proved
end Go.Proofs.YtmpigdokghngiaaGreat.repairSplit
end
