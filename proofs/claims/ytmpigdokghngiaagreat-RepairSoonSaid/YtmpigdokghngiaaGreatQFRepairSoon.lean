/-
 THE PROOF OF RepairSoon: for every input the law returns true, and each argument reads behind the call as it read before. No condition.
-/
import Derived.Test.YtmpigdokghngiaaGreatQ05
import Derived.Test.YtmpigdokghngiaaGreatQ24
import Derived.Test.YtmpigdokghngiaaGreatQ28
import Derived.Test.YtmpigdokghngiaaGreatQ04
import Derived.Test.YtmpigdokghngiaaGreatQ02
import Derived.Test.YtmpigdokghngiaaGreatQ25
import Derived.Deep.CutRange
import Derived.Test.YtmpigdokghngiaaGreatRows
import Derived.ProofKit
import Derived.OpenShut
import Derived.ShutString
import Derived.ChangeOld
import Derived.SliceStrings
import Derived.Lib.SmallJoins

set_option maxHeartbeats 12800000
set_option maxRecDepth 100000

section
namespace Go.Proofs.YtmpigdokghngiaaGreat
open Go.RowKit

theorem rso_a {w:World} {v cv vv:Value} {ql:List Chg} {ct view:List Row} (hv:Chgs w v ql) (hc:Tab w cv ct) (ht:Tab w vv view) (ca cb cd ce seq tok at' dg nn now rounds:Int) (la sn oo:Bool) (HF:Hid ((fewC ql 30 && fewT ct)=false)) :
  Calls Tryz.prog 7 #[.agg #[.int .i64 ca,.int .i64 cb,.int .i64 cd,.int .i64 ce],.agg #[.int .i64 seq,v,.bool la,.int .i64 tok,.int .i64 at',.bool sn,.int .i64 dg,cv,.int .i64 nn,.bool oo],.agg #[vv,.int .i64 now,.int .i64 rounds]] w fun e w' => e=.returned (.bool true)∧Below w.heap.size w w':=by
 obtain⟨qa,qc,rfl,-⟩:=hv.open'
 obtain⟨ta,tc,rfl,-⟩:=hc.open'
 obtain⟨va,vc,rfl,-⟩:=ht.open'
 obtain⟨GB,XB,VB,HB⟩:=ent3 w (.cells #[.int .i64 ca,.int .i64 cb,.int .i64 cd,.int .i64 ce] 23) (.cells #[.int .i64 seq,.slice qa ql.length qc,.bool la,.int .i64 tok,.int .i64 at',.bool sn,.int .i64 dg,.slice ta ct.length tc,.int .i64 nn,.bool oo] 35) (.cells #[.slice va view.length vc,.int .i64 now,.int .i64 rounds] 37)
 have HV:=hZq ((hv).later HB.out)
 have HC:=hZq ((hc).later HB.out)
 have HT:=hZq ((ht).later HB.out)
 clear hv hc ht
 go_enter Tryz.func7,Tryz.ntmps7
 go_wp2_with (with_reducible refine ldA aggRSide _ rfl rfl (w.heap.size+1) 0 rfl XB.out [.int .i64 seq,.slice qa ql.length qc,.bool la,.int .i64 tok,.int .i64 at',.bool sn,.int .i64 dg,.slice ta ct.length tc,.int .i64 nn,.bool oo] rfl rfl ?_)
 refine (rrpfew HV.out HC.out seq tok at' dg nn la sn oo HF).mono ?_
 rintro e w4 ⟨rfl,b4⟩
 replace GB:=hZq (upQ GB.out b4)
 replace XB:=hZq (upQ XB.out b4)
 replace VB:=hZq (upQ VB.out b4)
 replace HV:=hZq (HV.out.later b4)
 replace HC:=hZq (HC.out.later b4)
 replace HT:=hZq (HT.out.later b4)
 replace HB:=hZq (below2Z HB.out b4)
 clear b4
 go_wp2_with fail
 refine (live20 _).mono ?_
 rintro e w5 ⟨rfl,b5⟩
 replace HB:=hZq (below2Z HB.out b5)
 clear b5
 go_wp2_with fail
 go_ret
 exact⟨rfl,HB.out⟩

theorem rso_b {w:World} {v cv vv:Value} {ql:List Chg} {ct view:List Row} (hv:Chgs w v ql) (hc:Tab w cv ct) (ht:Tab w vv view) (ca cb cd ce seq tok at' dg nn now rounds:Int) (la sn oo:Bool) (HF:Hid ((fewC ql 30 && fewT ct)=true)) (HG:Hid (fewT view=false)) :
  Calls Tryz.prog 7 #[.agg #[.int .i64 ca,.int .i64 cb,.int .i64 cd,.int .i64 ce],.agg #[.int .i64 seq,v,.bool la,.int .i64 tok,.int .i64 at',.bool sn,.int .i64 dg,cv,.int .i64 nn,.bool oo],.agg #[vv,.int .i64 now,.int .i64 rounds]] w fun e w' => e=.returned (.bool true)∧Below w.heap.size w w':=by
 obtain⟨qa,qc,rfl,-⟩:=hv.open'
 obtain⟨ta,tc,rfl,-⟩:=hc.open'
 obtain⟨va,vc,rfl,-⟩:=ht.open'
 obtain⟨GB,XB,VB,HB⟩:=ent3 w (.cells #[.int .i64 ca,.int .i64 cb,.int .i64 cd,.int .i64 ce] 23) (.cells #[.int .i64 seq,.slice qa ql.length qc,.bool la,.int .i64 tok,.int .i64 at',.bool sn,.int .i64 dg,.slice ta ct.length tc,.int .i64 nn,.bool oo] 35) (.cells #[.slice va view.length vc,.int .i64 now,.int .i64 rounds] 37)
 have HV:=hZq ((hv).later HB.out)
 have HC:=hZq ((hc).later HB.out)
 have HT:=hZq ((ht).later HB.out)
 clear hv hc ht
 go_enter Tryz.func7,Tryz.ntmps7
 go_wp2_with (with_reducible refine ldA aggRSide _ rfl rfl (w.heap.size+1) 0 rfl XB.out [.int .i64 seq,.slice qa ql.length qc,.bool la,.int .i64 tok,.int .i64 at',.bool sn,.int .i64 dg,.slice ta ct.length tc,.int .i64 nn,.bool oo] rfl rfl ?_)
 refine (rrpfew HV.out HC.out seq tok at' dg nn la sn oo HF).mono ?_
 rintro e w4 ⟨rfl,b4⟩
 replace GB:=hZq (upQ GB.out b4)
 replace XB:=hZq (upQ XB.out b4)
 replace VB:=hZq (upQ VB.out b4)
 replace HV:=hZq (HV.out.later b4)
 replace HC:=hZq (HC.out.later b4)
 replace HT:=hZq (HT.out.later b4)
 replace HB:=hZq (below2Z HB.out b4)
 clear b4
 have VBk0:=ckZ VB.out 0 _ rfl
 go_wp2_with fail
 clear VBk0
 refine (fewt_eqL HT.out HG).mono ?_
 rintro e w5 ⟨rfl,b5⟩
 replace GB:=hZq (upQ GB.out b5)
 replace XB:=hZq (upQ XB.out b5)
 replace VB:=hZq (upQ VB.out b5)
 replace HV:=hZq (HV.out.later b5)
 replace HC:=hZq (HC.out.later b5)
 replace HT:=hZq (HT.out.later b5)
 replace HB:=hZq (below2Z HB.out b5)
 clear b5
 go_wp2_with fail
 refine (live20 _).mono ?_
 rintro e w6 ⟨rfl,b6⟩
 replace HB:=hZq (below2Z HB.out b6)
 clear b6
 go_wp2_with fail
 go_ret
 exact⟨rfl,HB.out⟩

theorem rso_c {w:World} {v cv vv:Value} {ql:List Chg} {ct view:List Row} (hv:Chgs w v ql) (hc:Tab w cv ct) (ht:Tab w vv view) (ca cb cd ce seq tok at' dg nn now rounds:Int) (la sn oo:Bool) (HF:Hid ((fewC ql 30 && fewT ct)=true)) (HG:Hid (fewT view=true)) (hx:¬ (lnMay ⟨ca,cb,cd,ce⟩ ⟨seq,⟨ql,la⟩,⟨tok,at'⟩,sn,dg⟩=true∧clMay ⟨ct,nn,oo⟩=true∧diMay view=true∧¬ now < 0∧¬ 549755813888 < now∧¬ now < at'∧¬ seq < nn∧¬ 549755813888 < seq)) :
  Calls Tryz.prog 7 #[.agg #[.int .i64 ca,.int .i64 cb,.int .i64 cd,.int .i64 ce],.agg #[.int .i64 seq,v,.bool la,.int .i64 tok,.int .i64 at',.bool sn,.int .i64 dg,cv,.int .i64 nn,.bool oo],.agg #[vv,.int .i64 now,.int .i64 rounds]] w fun e w' => e=.returned (.bool true)∧Below w.heap.size w w':=by
 obtain⟨s1,s2,s3,s4⟩:=few_short HF.out
 have s5:Short view:=fun r hr => by have:=((fewT_yes HG.out).2 r hr); omega
 obtain⟨qa,qc,rfl,-⟩:=hv.open'
 obtain⟨ta,tc,rfl,-⟩:=hc.open'
 obtain⟨va,vc,rfl,-⟩:=ht.open'
 obtain⟨GB,XB,VB,HB⟩:=ent3 w (.cells #[.int .i64 ca,.int .i64 cb,.int .i64 cd,.int .i64 ce] 23) (.cells #[.int .i64 seq,.slice qa ql.length qc,.bool la,.int .i64 tok,.int .i64 at',.bool sn,.int .i64 dg,.slice ta ct.length tc,.int .i64 nn,.bool oo] 35) (.cells #[.slice va view.length vc,.int .i64 now,.int .i64 rounds] 37)
 have HV:=hZq ((hv).later HB.out)
 have HC:=hZq ((hc).later HB.out)
 have HT:=hZq ((ht).later HB.out)
 clear hv hc ht
 go_enter Tryz.func7,Tryz.ntmps7
 have VBk0:=ckZ VB.out 0 _ rfl
 have VBk1:=ckZ VB.out 1 _ rfl
 have VBk2:=ckZ VB.out 2 _ rfl
 have XBk0:=ckZ XB.out 0 _ rfl
 have XBk4:=ckZ XB.out 4 _ rfl
 have XBk5:=ckZ XB.out 5 _ rfl
 have XBk6:=ckZ XB.out 6 _ rfl
 have XBk8:=ckZ XB.out 8 _ rfl
 have XBk9:=ckZ XB.out 9 _ rfl
 have GBk3:=ckZ GB.out 3 _ rfl
 go_wp2_with (with_reducible refine ldA aggRSide _ rfl rfl (w.heap.size+1) 0 rfl XB.out [.int .i64 seq,.slice qa ql.length qc,.bool la,.int .i64 tok,.int .i64 at',.bool sn,.int .i64 dg,.slice ta ct.length tc,.int .i64 nn,.bool oo] rfl rfl ?_)
 clear VBk0 VBk1 VBk2 XBk0 XBk4 XBk5 XBk6 XBk8 XBk9 GBk3
 refine (rrpfew HV.out HC.out seq tok at' dg nn la sn oo HF).mono ?_
 rintro e w4 ⟨rfl,b4⟩
 replace GB:=hZq (upQ GB.out b4)
 replace XB:=hZq (upQ XB.out b4)
 replace VB:=hZq (upQ VB.out b4)
 replace HV:=hZq (HV.out.later b4)
 replace HC:=hZq (HC.out.later b4)
 replace HT:=hZq (HT.out.later b4)
 replace HB:=hZq (below2Z HB.out b4)
 clear b4
 have VBk0:=ckZ VB.out 0 _ rfl
 have VBk1:=ckZ VB.out 1 _ rfl
 have VBk2:=ckZ VB.out 2 _ rfl
 have XBk0:=ckZ XB.out 0 _ rfl
 have XBk4:=ckZ XB.out 4 _ rfl
 have XBk5:=ckZ XB.out 5 _ rfl
 have XBk6:=ckZ XB.out 6 _ rfl
 have XBk8:=ckZ XB.out 8 _ rfl
 have XBk9:=ckZ XB.out 9 _ rfl
 have GBk3:=ckZ GB.out 3 _ rfl
 go_wp2_with fail
 clear VBk0 VBk1 VBk2 XBk0 XBk4 XBk5 XBk6 XBk8 XBk9 GBk3
 refine (fewt_eqL HT.out HG).mono ?_
 rintro e w5 ⟨rfl,b5⟩
 replace GB:=hZq (upQ GB.out b5)
 replace XB:=hZq (upQ XB.out b5)
 replace VB:=hZq (upQ VB.out b5)
 replace HV:=hZq (HV.out.later b5)
 replace HC:=hZq (HC.out.later b5)
 replace HT:=hZq (HT.out.later b5)
 replace HB:=hZq (below2Z HB.out b5)
 clear b5
 have VBk0:=ckZ VB.out 0 _ rfl
 have VBk1:=ckZ VB.out 1 _ rfl
 have VBk2:=ckZ VB.out 2 _ rfl
 have XBk0:=ckZ XB.out 0 _ rfl
 have XBk4:=ckZ XB.out 4 _ rfl
 have XBk5:=ckZ XB.out 5 _ rfl
 have XBk6:=ckZ XB.out 6 _ rfl
 have XBk8:=ckZ XB.out 8 _ rfl
 have XBk9:=ckZ XB.out 9 _ rfl
 have GBk3:=ckZ GB.out 3 _ rfl
 go_wp2_with (first | (with_reducible refine ldG aggCfg _ rfl rfl (w.heap.size) 0 rfl GB.out [.int .i64 ca,.int .i64 cb,.int .i64 cd,.int .i64 ce] rfl rfl ?_) | (with_reducible refine ldG aggLink _ rfl rfl (w.heap.size+1) 0 rfl XB.out [.int .i64 seq,.slice qa ql.length qc,.bool la,.int .i64 tok,.int .i64 at',.bool sn,.int .i64 dg] rfl rfl ?_))
 clear VBk0 VBk1 VBk2 XBk0 XBk4 XBk5 XBk6 XBk8 XBk9 GBk3
 cases hL:lnMay ⟨ca,cb,cd,ce⟩ ⟨seq,⟨ql,la⟩,⟨tok,at'⟩,sn,dg⟩ with
 | false =>
  refine (rlmay_any HV.out s1 s2 la sn seq tok at' dg ca cb cd ce (hZq hL)).mono ?_
  rintro e w56 ⟨rfl,b56⟩
  replace GB:=hZq (upQ GB.out b56)
  replace XB:=hZq (upQ XB.out b56)
  replace VB:=hZq (upQ VB.out b56)
  replace HV:=hZq (HV.out.later b56)
  replace HC:=hZq (HC.out.later b56)
  replace HT:=hZq (HT.out.later b56)
  replace HB:=hZq (below2Z HB.out b56)
  clear b56
  have VBk0:=ckZ VB.out 0 _ rfl
  have VBk1:=ckZ VB.out 1 _ rfl
  have VBk2:=ckZ VB.out 2 _ rfl
  have XBk0:=ckZ XB.out 0 _ rfl
  have XBk4:=ckZ XB.out 4 _ rfl
  have XBk5:=ckZ XB.out 5 _ rfl
  have XBk6:=ckZ XB.out 6 _ rfl
  have XBk8:=ckZ XB.out 8 _ rfl
  have XBk9:=ckZ XB.out 9 _ rfl
  have GBk3:=ckZ GB.out 3 _ rfl
  go_wp2_with fail
  clear VBk0 VBk1 VBk2 XBk0 XBk4 XBk5 XBk6 XBk8 XBk9 GBk3
  refine (live20 _).mono ?_
  rintro e w57 ⟨rfl,b57⟩
  replace HB:=hZq (below2Z HB.out b57)
  clear b57
  go_wp2_with fail
  go_ret
  exact⟨rfl,HB.out⟩
 | true =>
  refine (rlmay_any HV.out s1 s2 la sn seq tok at' dg ca cb cd ce (hZq hL)).mono ?_
  rintro e w6 ⟨rfl,b6⟩
  replace GB:=hZq (upQ GB.out b6)
  replace XB:=hZq (upQ XB.out b6)
  replace VB:=hZq (upQ VB.out b6)
  replace HV:=hZq (HV.out.later b6)
  replace HC:=hZq (HC.out.later b6)
  replace HT:=hZq (HT.out.later b6)
  replace HB:=hZq (below2Z HB.out b6)
  clear b6
  have VBk0:=ckZ VB.out 0 _ rfl
  have VBk1:=ckZ VB.out 1 _ rfl
  have VBk2:=ckZ VB.out 2 _ rfl
  have XBk0:=ckZ XB.out 0 _ rfl
  have XBk4:=ckZ XB.out 4 _ rfl
  have XBk5:=ckZ XB.out 5 _ rfl
  have XBk6:=ckZ XB.out 6 _ rfl
  have XBk8:=ckZ XB.out 8 _ rfl
  have XBk9:=ckZ XB.out 9 _ rfl
  have GBk3:=ckZ GB.out 3 _ rfl
  go_wp2_with (with_reducible refine ldG aggCli _ rfl rfl (w.heap.size+1) 7 rfl XB.out [.slice ta ct.length tc,.int .i64 nn,.bool oo] rfl rfl ?_)
  clear VBk0 VBk1 VBk2 XBk0 XBk4 XBk5 XBk6 XBk8 XBk9 GBk3
  cases hC:clMay ⟨ct,nn,oo⟩ with
  | false =>
   refine (rclmay_eq HC.out s3 nn oo (hZq hC)).mono ?_
   rintro e w57 ⟨rfl,b57⟩
   replace GB:=hZq (upQ GB.out b57)
   replace XB:=hZq (upQ XB.out b57)
   replace VB:=hZq (upQ VB.out b57)
   replace HV:=hZq (HV.out.later b57)
   replace HC:=hZq (HC.out.later b57)
   replace HT:=hZq (HT.out.later b57)
   replace HB:=hZq (below2Z HB.out b57)
   clear b57
   have VBk0:=ckZ VB.out 0 _ rfl
   have VBk1:=ckZ VB.out 1 _ rfl
   have VBk2:=ckZ VB.out 2 _ rfl
   have XBk0:=ckZ XB.out 0 _ rfl
   have XBk4:=ckZ XB.out 4 _ rfl
   have XBk5:=ckZ XB.out 5 _ rfl
   have XBk6:=ckZ XB.out 6 _ rfl
   have XBk8:=ckZ XB.out 8 _ rfl
   have XBk9:=ckZ XB.out 9 _ rfl
   have GBk3:=ckZ GB.out 3 _ rfl
   go_wp2_with fail
   clear VBk0 VBk1 VBk2 XBk0 XBk4 XBk5 XBk6 XBk8 XBk9 GBk3
   refine (live20 _).mono ?_
   rintro e w58 ⟨rfl,b58⟩
   replace HB:=hZq (below2Z HB.out b58)
   clear b58
   go_wp2_with fail
   go_ret
   exact⟨rfl,HB.out⟩
  | true =>
   refine (rclmay_eq HC.out s3 nn oo (hZq hC)).mono ?_
   rintro e w7 ⟨rfl,b7⟩
   replace GB:=hZq (upQ GB.out b7)
   replace XB:=hZq (upQ XB.out b7)
   replace VB:=hZq (upQ VB.out b7)
   replace HV:=hZq (HV.out.later b7)
   replace HC:=hZq (HC.out.later b7)
   replace HT:=hZq (HT.out.later b7)
   replace HB:=hZq (below2Z HB.out b7)
   clear b7
   have VBk0:=ckZ VB.out 0 _ rfl
   have VBk1:=ckZ VB.out 1 _ rfl
   have VBk2:=ckZ VB.out 2 _ rfl
   have XBk0:=ckZ XB.out 0 _ rfl
   have XBk4:=ckZ XB.out 4 _ rfl
   have XBk5:=ckZ XB.out 5 _ rfl
   have XBk6:=ckZ XB.out 6 _ rfl
   have XBk8:=ckZ XB.out 8 _ rfl
   have XBk9:=ckZ XB.out 9 _ rfl
   have GBk3:=ckZ GB.out 3 _ rfl
   go_wp2_with fail
   clear VBk0 VBk1 VBk2 XBk0 XBk4 XBk5 XBk6 XBk8 XBk9 GBk3
   cases hD:diMay view with
   | false =>
    refine (rdimay_eq HT.out s5 (hZq hD)).mono ?_
    rintro e w58 ⟨rfl,b58⟩
    replace GB:=hZq (upQ GB.out b58)
    replace XB:=hZq (upQ XB.out b58)
    replace VB:=hZq (upQ VB.out b58)
    replace HV:=hZq (HV.out.later b58)
    replace HC:=hZq (HC.out.later b58)
    replace HT:=hZq (HT.out.later b58)
    replace HB:=hZq (below2Z HB.out b58)
    clear b58
    have VBk0:=ckZ VB.out 0 _ rfl
    have VBk1:=ckZ VB.out 1 _ rfl
    have VBk2:=ckZ VB.out 2 _ rfl
    have XBk0:=ckZ XB.out 0 _ rfl
    have XBk4:=ckZ XB.out 4 _ rfl
    have XBk5:=ckZ XB.out 5 _ rfl
    have XBk6:=ckZ XB.out 6 _ rfl
    have XBk8:=ckZ XB.out 8 _ rfl
    have XBk9:=ckZ XB.out 9 _ rfl
    have GBk3:=ckZ GB.out 3 _ rfl
    go_wp2_with fail
    clear VBk0 VBk1 VBk2 XBk0 XBk4 XBk5 XBk6 XBk8 XBk9 GBk3
    refine (live20 _).mono ?_
    rintro e w59 ⟨rfl,b59⟩
    replace HB:=hZq (below2Z HB.out b59)
    clear b59
    go_wp2_with fail
    go_ret
    exact⟨rfl,HB.out⟩
   | true =>
    refine (rdimay_eq HT.out s5 (hZq hD)).mono ?_
    rintro e w8 ⟨rfl,b8⟩
    replace GB:=hZq (upQ GB.out b8)
    replace XB:=hZq (upQ XB.out b8)
    replace VB:=hZq (upQ VB.out b8)
    replace HV:=hZq (HV.out.later b8)
    replace HC:=hZq (HC.out.later b8)
    replace HT:=hZq (HT.out.later b8)
    replace HB:=hZq (below2Z HB.out b8)
    clear b8
    by_cases hk0:now < 0
    ·have gd8811:decide (now < 0)=true:=by rw [decide_eq_true_eq]; omega
     have VBk0:=ckZ VB.out 0 _ rfl
     have VBk1:=ckZ VB.out 1 _ rfl
     have VBk2:=ckZ VB.out 2 _ rfl
     have XBk0:=ckZ XB.out 0 _ rfl
     have XBk4:=ckZ XB.out 4 _ rfl
     have XBk5:=ckZ XB.out 5 _ rfl
     have XBk6:=ckZ XB.out 6 _ rfl
     have XBk8:=ckZ XB.out 8 _ rfl
     have XBk9:=ckZ XB.out 9 _ rfl
     have GBk3:=ckZ GB.out 3 _ rfl
     go_wp2_with fail
     clear VBk0 VBk1 VBk2 XBk0 XBk4 XBk5 XBk6 XBk8 XBk9 GBk3
     refine (live20 _).mono ?_
     rintro e w59 ⟨rfl,b59⟩
     replace HB:=hZq (below2Z HB.out b59)
     clear b59
     go_wp2_with fail
     go_ret
     exact⟨rfl,HB.out⟩
    ·have gd5123:decide (now < 0)=false:=by rw [decide_eq_false_iff_not]; omega
     by_cases hk1:549755813888 < now
     ·have gd4593:decide (549755813888 < now)=true:=by rw [decide_eq_true_eq]; omega
      have VBk0:=ckZ VB.out 0 _ rfl
      have VBk1:=ckZ VB.out 1 _ rfl
      have VBk2:=ckZ VB.out 2 _ rfl
      have XBk0:=ckZ XB.out 0 _ rfl
      have XBk4:=ckZ XB.out 4 _ rfl
      have XBk5:=ckZ XB.out 5 _ rfl
      have XBk6:=ckZ XB.out 6 _ rfl
      have XBk8:=ckZ XB.out 8 _ rfl
      have XBk9:=ckZ XB.out 9 _ rfl
      have GBk3:=ckZ GB.out 3 _ rfl
      go_wp2_with fail
      clear VBk0 VBk1 VBk2 XBk0 XBk4 XBk5 XBk6 XBk8 XBk9 GBk3
      refine (live20 _).mono ?_
      rintro e w59 ⟨rfl,b59⟩
      replace HB:=hZq (below2Z HB.out b59)
      clear b59
      go_wp2_with fail
      go_ret
      exact⟨rfl,HB.out⟩
     ·have gd2275:decide (549755813888 < now)=false:=by rw [decide_eq_false_iff_not]; omega
      by_cases hk2:now < at'
      ·have gd6534:decide (now < at')=true:=by rw [decide_eq_true_eq]; omega
       have VBk0:=ckZ VB.out 0 _ rfl
       have VBk1:=ckZ VB.out 1 _ rfl
       have VBk2:=ckZ VB.out 2 _ rfl
       have XBk0:=ckZ XB.out 0 _ rfl
       have XBk4:=ckZ XB.out 4 _ rfl
       have XBk5:=ckZ XB.out 5 _ rfl
       have XBk6:=ckZ XB.out 6 _ rfl
       have XBk8:=ckZ XB.out 8 _ rfl
       have XBk9:=ckZ XB.out 9 _ rfl
       have GBk3:=ckZ GB.out 3 _ rfl
       go_wp2_with fail
       clear VBk0 VBk1 VBk2 XBk0 XBk4 XBk5 XBk6 XBk8 XBk9 GBk3
       refine (live20 _).mono ?_
       rintro e w59 ⟨rfl,b59⟩
       replace HB:=hZq (below2Z HB.out b59)
       clear b59
       go_wp2_with fail
       go_ret
       exact⟨rfl,HB.out⟩
      ·have gd4636:decide (now < at')=false:=by rw [decide_eq_false_iff_not]; omega
       by_cases hk3:seq < nn
       ·have gd5499:decide (seq < nn)=true:=by rw [decide_eq_true_eq]; omega
        have VBk0:=ckZ VB.out 0 _ rfl
        have VBk1:=ckZ VB.out 1 _ rfl
        have VBk2:=ckZ VB.out 2 _ rfl
        have XBk0:=ckZ XB.out 0 _ rfl
        have XBk4:=ckZ XB.out 4 _ rfl
        have XBk5:=ckZ XB.out 5 _ rfl
        have XBk6:=ckZ XB.out 6 _ rfl
        have XBk8:=ckZ XB.out 8 _ rfl
        have XBk9:=ckZ XB.out 9 _ rfl
        have GBk3:=ckZ GB.out 3 _ rfl
        go_wp2_with fail
        clear VBk0 VBk1 VBk2 XBk0 XBk4 XBk5 XBk6 XBk8 XBk9 GBk3
        refine (live20 _).mono ?_
        rintro e w59 ⟨rfl,b59⟩
        replace HB:=hZq (below2Z HB.out b59)
        clear b59
        go_wp2_with fail
        go_ret
        exact⟨rfl,HB.out⟩
       ·have gd3181:decide (seq < nn)=false:=by rw [decide_eq_false_iff_not]; omega
        by_cases hk4:549755813888 < seq
        ·have gd1268:decide (549755813888 < seq)=true:=by rw [decide_eq_true_eq]; omega
         have VBk0:=ckZ VB.out 0 _ rfl
         have VBk1:=ckZ VB.out 1 _ rfl
         have VBk2:=ckZ VB.out 2 _ rfl
         have XBk0:=ckZ XB.out 0 _ rfl
         have XBk4:=ckZ XB.out 4 _ rfl
         have XBk5:=ckZ XB.out 5 _ rfl
         have XBk6:=ckZ XB.out 6 _ rfl
         have XBk8:=ckZ XB.out 8 _ rfl
         have XBk9:=ckZ XB.out 9 _ rfl
         have GBk3:=ckZ GB.out 3 _ rfl
         go_wp2_with fail
         clear VBk0 VBk1 VBk2 XBk0 XBk4 XBk5 XBk6 XBk8 XBk9 GBk3
         refine (live20 _).mono ?_
         rintro e w59 ⟨rfl,b59⟩
         replace HB:=hZq (below2Z HB.out b59)
         clear b59
         go_wp2_with fail
         go_ret
         exact⟨rfl,HB.out⟩
        ·have gd822:decide (549755813888 < seq)=false:=by rw [decide_eq_false_iff_not]; omega
         exact absurd ⟨hL,hC,hD,by omega,by omega,by omega,by omega,by omega⟩ hx

theorem rso_d {w:World} {v cv vv:Value} {ql:List Chg} {ct view:List Row} (hv:Chgs w v ql) (hc:Tab w cv ct) (ht:Tab w vv view) (ca cb cd ce seq tok at' dg nn now rounds:Int) (la:Bool) (HF:Hid ((fewC ql 30 && fewT ct)=true)) (HG:Hid (fewT view=true)) (HL:Hid (lnMay ⟨ca,cb,cd,ce⟩ ⟨seq,⟨ql,la⟩,⟨tok,at'⟩,false,dg⟩=true)) (HC0:Hid (clMay ⟨ct,nn,false⟩=true)) (HD:Hid (diMay view=true)) (hb:¬ now < 0∧¬ 549755813888 < now∧¬ now < at'∧¬ seq < nn∧¬ 549755813888 < seq) :
  Calls Tryz.prog 7 #[.agg #[.int .i64 ca,.int .i64 cb,.int .i64 cd,.int .i64 ce],.agg #[.int .i64 seq,v,.bool la,.int .i64 tok,.int .i64 at',.bool false,.int .i64 dg,cv,.int .i64 nn,.bool false],.agg #[vv,.int .i64 now,.int .i64 rounds]] w fun e w' => e=.returned (.bool true)∧Below w.heap.size w w':=by
 obtain⟨s1,s2,s3,s4⟩:=few_short HF.out
 have s5:Short view:=fun r hr => by have:=((fewT_yes HG.out).2 r hr); omega
 obtain⟨k0,k1,k2,k3,k4⟩:=hb
 have gd5123:decide (now < 0)=false:=by rw [decide_eq_false_iff_not]; omega
 have gd2275:decide (549755813888 < now)=false:=by rw [decide_eq_false_iff_not]; omega
 have gd4636:decide (now < at')=false:=by rw [decide_eq_false_iff_not]; omega
 have gd3181:decide (seq < nn)=false:=by rw [decide_eq_false_iff_not]; omega
 have gd822:decide (549755813888 < seq)=false:=by rw [decide_eq_false_iff_not]; omega
 have HC1:=HC0
 clear HC0
 obtain⟨qa,qc,rfl,-⟩:=hv.open'
 obtain⟨ta,tc,rfl,-⟩:=hc.open'
 obtain⟨va,vc,rfl,-⟩:=ht.open'
 obtain⟨GB,XB,VB,HB⟩:=ent3 w (.cells #[.int .i64 ca,.int .i64 cb,.int .i64 cd,.int .i64 ce] 23) (.cells #[.int .i64 seq,.slice qa ql.length qc,.bool la,.int .i64 tok,.int .i64 at',.bool false,.int .i64 dg,.slice ta ct.length tc,.int .i64 nn,.bool false] 35) (.cells #[.slice va view.length vc,.int .i64 now,.int .i64 rounds] 37)
 have HV:=hZq ((hv).later HB.out)
 have HC:=hZq ((hc).later HB.out)
 have HT:=hZq ((ht).later HB.out)
 clear hv hc ht
 go_enter Tryz.func7,Tryz.ntmps7
 have VBk0:=ckZ VB.out 0 _ rfl
 have VBk1:=ckZ VB.out 1 _ rfl
 have VBk2:=ckZ VB.out 2 _ rfl
 have XBk0:=ckZ XB.out 0 _ rfl
 have XBk4:=ckZ XB.out 4 _ rfl
 have XBk5:=ckZ XB.out 5 _ rfl
 have XBk6:=ckZ XB.out 6 _ rfl
 have XBk8:=ckZ XB.out 8 _ rfl
 have XBk9:=ckZ XB.out 9 _ rfl
 have GBk3:=ckZ GB.out 3 _ rfl
 go_wp2_with (with_reducible refine ldA aggRSide _ rfl rfl (w.heap.size+1) 0 rfl XB.out [.int .i64 seq,.slice qa ql.length qc,.bool la,.int .i64 tok,.int .i64 at',.bool false,.int .i64 dg,.slice ta ct.length tc,.int .i64 nn,.bool false] rfl rfl ?_)
 clear VBk0 VBk1 VBk2 XBk0 XBk4 XBk5 XBk6 XBk8 XBk9 GBk3
 refine (rrpfew HV.out HC.out seq tok at' dg nn la false false HF).mono ?_
 rintro e w4 ⟨rfl,b4⟩
 replace GB:=hZq (upQ GB.out b4)
 replace XB:=hZq (upQ XB.out b4)
 replace VB:=hZq (upQ VB.out b4)
 replace HV:=hZq (HV.out.later b4)
 replace HC:=hZq (HC.out.later b4)
 replace HT:=hZq (HT.out.later b4)
 replace HB:=hZq (below2Z HB.out b4)
 clear b4
 have VBk0:=ckZ VB.out 0 _ rfl
 have VBk1:=ckZ VB.out 1 _ rfl
 have VBk2:=ckZ VB.out 2 _ rfl
 have XBk0:=ckZ XB.out 0 _ rfl
 have XBk4:=ckZ XB.out 4 _ rfl
 have XBk5:=ckZ XB.out 5 _ rfl
 have XBk6:=ckZ XB.out 6 _ rfl
 have XBk8:=ckZ XB.out 8 _ rfl
 have XBk9:=ckZ XB.out 9 _ rfl
 have GBk3:=ckZ GB.out 3 _ rfl
 go_wp2_with fail
 clear VBk0 VBk1 VBk2 XBk0 XBk4 XBk5 XBk6 XBk8 XBk9 GBk3
 refine (fewt_eqL HT.out HG).mono ?_
 rintro e w5 ⟨rfl,b5⟩
 replace GB:=hZq (upQ GB.out b5)
 replace XB:=hZq (upQ XB.out b5)
 replace VB:=hZq (upQ VB.out b5)
 replace HV:=hZq (HV.out.later b5)
 replace HC:=hZq (HC.out.later b5)
 replace HT:=hZq (HT.out.later b5)
 replace HB:=hZq (below2Z HB.out b5)
 clear b5
 have VBk0:=ckZ VB.out 0 _ rfl
 have VBk1:=ckZ VB.out 1 _ rfl
 have VBk2:=ckZ VB.out 2 _ rfl
 have XBk0:=ckZ XB.out 0 _ rfl
 have XBk4:=ckZ XB.out 4 _ rfl
 have XBk5:=ckZ XB.out 5 _ rfl
 have XBk6:=ckZ XB.out 6 _ rfl
 have XBk8:=ckZ XB.out 8 _ rfl
 have XBk9:=ckZ XB.out 9 _ rfl
 have GBk3:=ckZ GB.out 3 _ rfl
 go_wp2_with (first | (with_reducible refine ldG aggCfg _ rfl rfl (w.heap.size) 0 rfl GB.out [.int .i64 ca,.int .i64 cb,.int .i64 cd,.int .i64 ce] rfl rfl ?_) | (with_reducible refine ldG aggLink _ rfl rfl (w.heap.size+1) 0 rfl XB.out [.int .i64 seq,.slice qa ql.length qc,.bool la,.int .i64 tok,.int .i64 at',.bool false,.int .i64 dg] rfl rfl ?_))
 clear VBk0 VBk1 VBk2 XBk0 XBk4 XBk5 XBk6 XBk8 XBk9 GBk3
 refine (rlmay_any HV.out s1 s2 la false seq tok at' dg ca cb cd ce HL).mono ?_
 rintro e w6 ⟨rfl,b6⟩
 replace GB:=hZq (upQ GB.out b6)
 replace XB:=hZq (upQ XB.out b6)
 replace VB:=hZq (upQ VB.out b6)
 replace HV:=hZq (HV.out.later b6)
 replace HC:=hZq (HC.out.later b6)
 replace HT:=hZq (HT.out.later b6)
 replace HB:=hZq (below2Z HB.out b6)
 clear b6
 have VBk0:=ckZ VB.out 0 _ rfl
 have VBk1:=ckZ VB.out 1 _ rfl
 have VBk2:=ckZ VB.out 2 _ rfl
 have XBk0:=ckZ XB.out 0 _ rfl
 have XBk4:=ckZ XB.out 4 _ rfl
 have XBk5:=ckZ XB.out 5 _ rfl
 have XBk6:=ckZ XB.out 6 _ rfl
 have XBk8:=ckZ XB.out 8 _ rfl
 have XBk9:=ckZ XB.out 9 _ rfl
 have GBk3:=ckZ GB.out 3 _ rfl
 go_wp2_with (with_reducible refine ldG aggCli _ rfl rfl (w.heap.size+1) 7 rfl XB.out [.slice ta ct.length tc,.int .i64 nn,.bool false] rfl rfl ?_)
 clear VBk0 VBk1 VBk2 XBk0 XBk4 XBk5 XBk6 XBk8 XBk9 GBk3
 refine (rclmay_eq HC.out s3 nn false HC1).mono ?_
 rintro e w7 ⟨rfl,b7⟩
 replace GB:=hZq (upQ GB.out b7)
 replace XB:=hZq (upQ XB.out b7)
 replace VB:=hZq (upQ VB.out b7)
 replace HV:=hZq (HV.out.later b7)
 replace HC:=hZq (HC.out.later b7)
 replace HT:=hZq (HT.out.later b7)
 replace HB:=hZq (below2Z HB.out b7)
 clear b7
 have VBk0:=ckZ VB.out 0 _ rfl
 have VBk1:=ckZ VB.out 1 _ rfl
 have VBk2:=ckZ VB.out 2 _ rfl
 have XBk0:=ckZ XB.out 0 _ rfl
 have XBk4:=ckZ XB.out 4 _ rfl
 have XBk5:=ckZ XB.out 5 _ rfl
 have XBk6:=ckZ XB.out 6 _ rfl
 have XBk8:=ckZ XB.out 8 _ rfl
 have XBk9:=ckZ XB.out 9 _ rfl
 have GBk3:=ckZ GB.out 3 _ rfl
 go_wp2_with fail
 clear VBk0 VBk1 VBk2 XBk0 XBk4 XBk5 XBk6 XBk8 XBk9 GBk3
 refine (rdimay_eq HT.out s5 HD).mono ?_
 rintro e w8 ⟨rfl,b8⟩
 replace GB:=hZq (upQ GB.out b8)
 replace XB:=hZq (upQ XB.out b8)
 replace VB:=hZq (upQ VB.out b8)
 replace HV:=hZq (HV.out.later b8)
 replace HC:=hZq (HC.out.later b8)
 replace HT:=hZq (HT.out.later b8)
 replace HB:=hZq (below2Z HB.out b8)
 clear b8
 have VBk0:=ckZ VB.out 0 _ rfl
 have VBk1:=ckZ VB.out 1 _ rfl
 have VBk2:=ckZ VB.out 2 _ rfl
 have XBk0:=ckZ XB.out 0 _ rfl
 have XBk4:=ckZ XB.out 4 _ rfl
 have XBk5:=ckZ XB.out 5 _ rfl
 have XBk6:=ckZ XB.out 6 _ rfl
 have XBk8:=ckZ XB.out 8 _ rfl
 have XBk9:=ckZ XB.out 9 _ rfl
 have GBk3:=ckZ GB.out 3 _ rfl
 go_wp2_with fail
 clear VBk0 VBk1 VBk2 XBk0 XBk4 XBk5 XBk6 XBk8 XBk9 GBk3
 refine (live20 _).mono ?_
 rintro e w9 ⟨rfl,b9⟩
 replace HB:=hZq (below2Z HB.out b9)
 clear b9
 go_wp2_with fail
 go_ret
 exact⟨rfl,HB.out⟩

theorem rso_e {w:World} {v cv vv:Value} {ql:List Chg} {ct view:List Row} (hv:Chgs w v ql) (hc:Tab w cv ct) (ht:Tab w vv view) (ca cb cd ce seq tok at' dg nn now rounds:Int) (la:Bool) (HF:Hid ((fewC ql 30 && fewT ct)=true)) (HG:Hid (fewT view=true)) (HL:Hid (lnMay ⟨ca,cb,cd,ce⟩ ⟨seq,⟨ql,la⟩,⟨tok,at'⟩,true,dg⟩=true)) (HC0:Hid (clMay ⟨ct,nn,true⟩=true)) (HD:Hid (diMay view=true)) (hb:¬ now < 0∧¬ 549755813888 < now∧¬ now < at'∧¬ seq < nn∧¬ 549755813888 < seq) {xas xat xaa xad xann:Int} {xaq:List Chg} {xal xan xaoo:Bool} {xac:List Row} {xbs xbt xba xbd xbnn:Int} {xbq:List Chg} {xbl xbn xboo:Bool} {xbc:List Row} (HA:Hid (rpRound ⟨ca,cb,cd,ce⟩ view (now+1) (⟨seq,⟨ql,la⟩,⟨tok,at'⟩,true,dg⟩,(⟨ct,nn,true⟩ : Cli))=(⟨xas,⟨xaq,xal⟩,⟨xat,xaa⟩,xan,xad⟩,(⟨xac,xann,xaoo⟩ : Cli)))) (HBS:Hid (rpRound ⟨ca,cb,cd,ce⟩ view (now+2) (⟨xas,⟨xaq,xal⟩,⟨xat,xaa⟩,xan,xad⟩,(⟨xac,xann,xaoo⟩ : Cli))=(⟨xbs,⟨xbq,xbl⟩,⟨xbt,xba⟩,xbn,xbd⟩,(⟨xbc,xbnn,xboo⟩ : Cli)))) (HS1:Hid (rpSynced (⟨xas,⟨xaq,xal⟩,⟨xat,xaa⟩,xan,xad⟩,(⟨xac,xann,xaoo⟩ : Cli)) view=true)) (HS2:Hid (rpSynced (⟨xbs,⟨xbq,xbl⟩,⟨xbt,xba⟩,xbn,xbd⟩,(⟨xbc,xbnn,xboo⟩ : Cli)) view=true)) (HQ:Hid (lnQuiet ⟨xbs,⟨xbq,xbl⟩,⟨xbt,xba⟩,xbn,xbd⟩=true)) (HCB:Hid (clMay ⟨xbc,xbnn,xboo⟩=true)) (HPM:Hid (pcMay ⟨ca,cb,cd,ce⟩=true)) :
  Calls Tryz.prog 7 #[.agg #[.int .i64 ca,.int .i64 cb,.int .i64 cd,.int .i64 ce],.agg #[.int .i64 seq,v,.bool la,.int .i64 tok,.int .i64 at',.bool true,.int .i64 dg,cv,.int .i64 nn,.bool true],.agg #[vv,.int .i64 now,.int .i64 rounds]] w fun e w' => e=.returned (.bool true)∧Below w.heap.size w w':=by
 obtain⟨s1,s2,s3,s4⟩:=few_short HF.out
 have s5:Short view:=fun r hr => by have:=((fewT_yes HG.out).2 r hr); omega
 obtain⟨k0,k1,k2,k3,k4⟩:=hb
 have w1:IntKind.i64.wrap (now+1)=now+1:=IntWalk.i64_in _ (by omega)
 have w2:IntKind.i64.wrap (now+2)=now+2:=IntWalk.i64_in _ (by omega)
 have HSA:=hZq (round_fit (cfg:=⟨ca,cb,cd,ce⟩) (view:=view) (now:=now+1) (RpFit.mk (s:=(⟨seq,⟨ql,la⟩,⟨tok,at'⟩,true,dg⟩,(⟨ct,nn,true⟩ : Cli))) s1 s2 s3 s4))
 rw [HA.out] at HSA
 have HSB:=hZq (round_fit (cfg:=⟨ca,cb,cd,ce⟩) (view:=view) (now:=now+2) HSA.out)
 rw [HBS.out] at HSB
 have gd5123:decide (now < 0)=false:=by rw [decide_eq_false_iff_not]; omega
 have gd2275:decide (549755813888 < now)=false:=by rw [decide_eq_false_iff_not]; omega
 have gd4636:decide (now < at')=false:=by rw [decide_eq_false_iff_not]; omega
 have gd3181:decide (seq < nn)=false:=by rw [decide_eq_false_iff_not]; omega
 have gd822:decide (549755813888 < seq)=false:=by rw [decide_eq_false_iff_not]; omega
 have HC1:=HC0
 clear HC0
 obtain⟨qa,qc,rfl,-⟩:=hv.open'
 obtain⟨ta,tc,rfl,-⟩:=hc.open'
 obtain⟨va,vc,rfl,-⟩:=ht.open'
 obtain⟨GB,XB,VB,HB⟩:=ent3 w (.cells #[.int .i64 ca,.int .i64 cb,.int .i64 cd,.int .i64 ce] 23) (.cells #[.int .i64 seq,.slice qa ql.length qc,.bool la,.int .i64 tok,.int .i64 at',.bool true,.int .i64 dg,.slice ta ct.length tc,.int .i64 nn,.bool true] 35) (.cells #[.slice va view.length vc,.int .i64 now,.int .i64 rounds] 37)
 have HV:=hZq ((hv).later HB.out)
 have HC:=hZq ((hc).later HB.out)
 have HT:=hZq ((ht).later HB.out)
 clear hv hc ht
 go_enter Tryz.func7,Tryz.ntmps7
 have VBk0:=ckZ VB.out 0 _ rfl
 have VBk1:=ckZ VB.out 1 _ rfl
 have VBk2:=ckZ VB.out 2 _ rfl
 have XBk0:=ckZ XB.out 0 _ rfl
 have XBk4:=ckZ XB.out 4 _ rfl
 have XBk5:=ckZ XB.out 5 _ rfl
 have XBk6:=ckZ XB.out 6 _ rfl
 have XBk8:=ckZ XB.out 8 _ rfl
 have XBk9:=ckZ XB.out 9 _ rfl
 have GBk3:=ckZ GB.out 3 _ rfl
 go_wp2_with (with_reducible refine ldA aggRSide _ rfl rfl (w.heap.size+1) 0 rfl XB.out [.int .i64 seq,.slice qa ql.length qc,.bool la,.int .i64 tok,.int .i64 at',.bool true,.int .i64 dg,.slice ta ct.length tc,.int .i64 nn,.bool true] rfl rfl ?_)
 clear VBk0 VBk1 VBk2 XBk0 XBk4 XBk5 XBk6 XBk8 XBk9 GBk3
 refine (rrpfew HV.out HC.out seq tok at' dg nn la true true HF).mono ?_
 rintro e w4 ⟨rfl,b4⟩
 replace GB:=hZq (upQ GB.out b4)
 replace XB:=hZq (upQ XB.out b4)
 replace VB:=hZq (upQ VB.out b4)
 replace HV:=hZq (HV.out.later b4)
 replace HC:=hZq (HC.out.later b4)
 replace HT:=hZq (HT.out.later b4)
 replace HB:=hZq (below2Z HB.out b4)
 clear b4
 have VBk0:=ckZ VB.out 0 _ rfl
 have VBk1:=ckZ VB.out 1 _ rfl
 have VBk2:=ckZ VB.out 2 _ rfl
 have XBk0:=ckZ XB.out 0 _ rfl
 have XBk4:=ckZ XB.out 4 _ rfl
 have XBk5:=ckZ XB.out 5 _ rfl
 have XBk6:=ckZ XB.out 6 _ rfl
 have XBk8:=ckZ XB.out 8 _ rfl
 have XBk9:=ckZ XB.out 9 _ rfl
 have GBk3:=ckZ GB.out 3 _ rfl
 go_wp2_with fail
 clear VBk0 VBk1 VBk2 XBk0 XBk4 XBk5 XBk6 XBk8 XBk9 GBk3
 refine (fewt_eqL HT.out HG).mono ?_
 rintro e w5 ⟨rfl,b5⟩
 replace GB:=hZq (upQ GB.out b5)
 replace XB:=hZq (upQ XB.out b5)
 replace VB:=hZq (upQ VB.out b5)
 replace HV:=hZq (HV.out.later b5)
 replace HC:=hZq (HC.out.later b5)
 replace HT:=hZq (HT.out.later b5)
 replace HB:=hZq (below2Z HB.out b5)
 clear b5
 have VBk0:=ckZ VB.out 0 _ rfl
 have VBk1:=ckZ VB.out 1 _ rfl
 have VBk2:=ckZ VB.out 2 _ rfl
 have XBk0:=ckZ XB.out 0 _ rfl
 have XBk4:=ckZ XB.out 4 _ rfl
 have XBk5:=ckZ XB.out 5 _ rfl
 have XBk6:=ckZ XB.out 6 _ rfl
 have XBk8:=ckZ XB.out 8 _ rfl
 have XBk9:=ckZ XB.out 9 _ rfl
 have GBk3:=ckZ GB.out 3 _ rfl
 go_wp2_with (first | (with_reducible refine ldG aggCfg _ rfl rfl (w.heap.size) 0 rfl GB.out [.int .i64 ca,.int .i64 cb,.int .i64 cd,.int .i64 ce] rfl rfl ?_) | (with_reducible refine ldG aggLink _ rfl rfl (w.heap.size+1) 0 rfl XB.out [.int .i64 seq,.slice qa ql.length qc,.bool la,.int .i64 tok,.int .i64 at',.bool true,.int .i64 dg] rfl rfl ?_))
 clear VBk0 VBk1 VBk2 XBk0 XBk4 XBk5 XBk6 XBk8 XBk9 GBk3
 refine (rlmay_any HV.out s1 s2 la true seq tok at' dg ca cb cd ce HL).mono ?_
 rintro e w6 ⟨rfl,b6⟩
 replace GB:=hZq (upQ GB.out b6)
 replace XB:=hZq (upQ XB.out b6)
 replace VB:=hZq (upQ VB.out b6)
 replace HV:=hZq (HV.out.later b6)
 replace HC:=hZq (HC.out.later b6)
 replace HT:=hZq (HT.out.later b6)
 replace HB:=hZq (below2Z HB.out b6)
 clear b6
 have VBk0:=ckZ VB.out 0 _ rfl
 have VBk1:=ckZ VB.out 1 _ rfl
 have VBk2:=ckZ VB.out 2 _ rfl
 have XBk0:=ckZ XB.out 0 _ rfl
 have XBk4:=ckZ XB.out 4 _ rfl
 have XBk5:=ckZ XB.out 5 _ rfl
 have XBk6:=ckZ XB.out 6 _ rfl
 have XBk8:=ckZ XB.out 8 _ rfl
 have XBk9:=ckZ XB.out 9 _ rfl
 have GBk3:=ckZ GB.out 3 _ rfl
 go_wp2_with (with_reducible refine ldG aggCli _ rfl rfl (w.heap.size+1) 7 rfl XB.out [.slice ta ct.length tc,.int .i64 nn,.bool true] rfl rfl ?_)
 clear VBk0 VBk1 VBk2 XBk0 XBk4 XBk5 XBk6 XBk8 XBk9 GBk3
 refine (rclmay_eq HC.out s3 nn true HC1).mono ?_
 rintro e w7 ⟨rfl,b7⟩
 replace GB:=hZq (upQ GB.out b7)
 replace XB:=hZq (upQ XB.out b7)
 replace VB:=hZq (upQ VB.out b7)
 replace HV:=hZq (HV.out.later b7)
 replace HC:=hZq (HC.out.later b7)
 replace HT:=hZq (HT.out.later b7)
 replace HB:=hZq (below2Z HB.out b7)
 clear b7
 have VBk0:=ckZ VB.out 0 _ rfl
 have VBk1:=ckZ VB.out 1 _ rfl
 have VBk2:=ckZ VB.out 2 _ rfl
 have XBk0:=ckZ XB.out 0 _ rfl
 have XBk4:=ckZ XB.out 4 _ rfl
 have XBk5:=ckZ XB.out 5 _ rfl
 have XBk6:=ckZ XB.out 6 _ rfl
 have XBk8:=ckZ XB.out 8 _ rfl
 have XBk9:=ckZ XB.out 9 _ rfl
 have GBk3:=ckZ GB.out 3 _ rfl
 go_wp2_with fail
 clear VBk0 VBk1 VBk2 XBk0 XBk4 XBk5 XBk6 XBk8 XBk9 GBk3
 refine (rdimay_eq HT.out s5 HD).mono ?_
 rintro e w8 ⟨rfl,b8⟩
 replace GB:=hZq (upQ GB.out b8)
 replace XB:=hZq (upQ XB.out b8)
 replace VB:=hZq (upQ VB.out b8)
 replace HV:=hZq (HV.out.later b8)
 replace HC:=hZq (HC.out.later b8)
 replace HT:=hZq (HT.out.later b8)
 replace HB:=hZq (below2Z HB.out b8)
 clear b8
 have VBk0:=ckZ VB.out 0 _ rfl
 have VBk1:=ckZ VB.out 1 _ rfl
 have VBk2:=ckZ VB.out 2 _ rfl
 have XBk0:=ckZ XB.out 0 _ rfl
 have XBk4:=ckZ XB.out 4 _ rfl
 have XBk5:=ckZ XB.out 5 _ rfl
 have XBk6:=ckZ XB.out 6 _ rfl
 have XBk8:=ckZ XB.out 8 _ rfl
 have XBk9:=ckZ XB.out 9 _ rfl
 have GBk3:=ckZ GB.out 3 _ rfl
 go_upto_region 5 with fail
 clear VBk0 VBk1 VBk2 XBk0 XBk4 XBk5 XBk6 XBk8 XBk9 GBk3
 go_upto_region 5 with fail
 go_cut [7] from 83 to 91 (fun pp wx => ∃ B xaua xauc xata xatc,pp=.pointer (some ⟨B,0,none⟩)∧Hid (wx.heap[B]?=some (.cells #[.int .i64 xas,.slice xaua xaq.length xauc,.bool xal,.int .i64 xat,.int .i64 xaa,.bool xan,.int .i64 xad,.slice xata xac.length xatc,.int .i64 xann,.bool xaoo] 41 (0,0)))∧Hid (Chgs wx (.slice xaua xaq.length xauc) xaq)∧Hid (Tab wx (.slice xata xac.length xatc) xac)∧Hid (Below w8.heap.size w8 wx))
 case first =>
  obtain⟨BS,hBS⟩ : ∃ BS:List (Nat × List Value),BS=[(w.heap.size,[.int .i64 ca,.int .i64 cb,.int .i64 cd,.int .i64 ce]),(w.heap.size+1,[.int .i64 seq,.slice qa ql.length qc,.bool la,.int .i64 tok,.int .i64 at',.bool true,.int .i64 dg,.slice ta ct.length tc,.int .i64 nn,.bool true]),(w.heap.size+1+1,[.slice va view.length vc,.int .i64 now,.int .i64 rounds])]:=⟨_,rfl⟩
  have D0:=hZq (show heldB w8 BS from by rw [hBS]; exact heldB_cons (cellsAt_block GB.out) (heldB_cons (cellsAt_block XB.out) (heldB_cons (cellsAt_block VB.out) (heldB_nil _))))
  have hL:=heldB_at (b:=w.heap.size) (vs:=[.int .i64 ca,.int .i64 cb,.int .i64 cd,.int .i64 ce]) (bs:=BS) (by rw [hBS]; simp)
  have hq0:=hL 0 _ rfl
  have hq1:=hL 1 _ rfl
  have hq2:=hL 2 _ rfl
  have hq3:=hL 3 _ rfl
  clear hL
  have hL:=heldB_at (b:=w.heap.size+1) (vs:=[.int .i64 seq,.slice qa ql.length qc,.bool la,.int .i64 tok,.int .i64 at',.bool true,.int .i64 dg,.slice ta ct.length tc,.int .i64 nn,.bool true]) (bs:=BS) (by rw [hBS]; simp)
  have hq4:=hL 0 _ rfl
  have hq5:=hL 1 _ rfl
  have hq6:=hL 2 _ rfl
  have hq7:=hL 3 _ rfl
  have hq8:=hL 4 _ rfl
  have hq9:=hL 5 _ rfl
  have hq10:=hL 6 _ rfl
  have hq11:=hL 7 _ rfl
  have hq12:=hL 8 _ rfl
  have hq13:=hL 9 _ rfl
  clear hL
  have hL:=heldB_at (b:=w.heap.size+1+1) (vs:=[.slice va view.length vc,.int .i64 now,.int .i64 rounds]) (bs:=BS) (by rw [hBS]; simp)
  have hq14:=hL 0 _ rfl
  have hq15:=hL 1 _ rfl
  have hq16:=hL 2 _ rfl
  clear hL
  clear hBS
  have K0:Hid (Below w8.heap.size w8 w8.drew):=hZq (Below.refl _ _).drew
  refine wp_region_held_drew (S:=(fun X => heldB X BS)) (by kernel_rfl) ?_ (fun hHeld => ?_)
  ·exact heldB_up K0.out D0.out
  generalize w8.drew=z0 at K0 hHeld ⊢
  refine tkZ 0 ?_
  refine tkZ 1 ?_
  refine tkZ 3 ?_
  refine tkZ 4 ?_
  refine tkZ 5 ?_
  refine tkZ 6 ?_
  refine tkZ 7 ?_
  refine wpAnyH_ready (rs:=[2,9]) (by as_aux_lemma => kernel_rfl) (by simp) ?_
  refine AllReadyH.cons rfl (fun Kx hK => ?_) (AllReadyH.cons rfl (fun Kx hK => ?_) (AllReadyH.nil))
  ·go_simp
   refine (rpmine (HV.out.later (K0.out)) (HC.out.later (K0.out)) seq tok at' dg nn la true true).mono ?_
   rintro e z1 ⟨rfl,bz1⟩
   have K1:=hZq (below2Z K0.out bz1)
   have D1:=hZq (heldB_up K1.out D0.out)
   clear bz1
   go_wp2_with fail
   refine hK.out _ _ ?_ (fun hHeld2 => ?_)
   ·exact D1.out
   clear hK Kx hHeld
   have hHeld:=hHeld2
   clear hHeld2
   try simp only [Act.put,List.setIfInBounds_toArray,List.set_cons_zero,List.set_cons_succ]
   refine wpAnyH_ready (rs:=[8,9]) (by as_aux_lemma => kernel_rfl) (by simp) ?_
   refine AllReadyH.cons rfl (fun Kx hK => ?_) (AllReadyH.cons rfl (fun Kx hK => ?_) (AllReadyH.nil))
   ·go_simp
    refine (rpround (HV.out.later (K1.out)) (HC.out.later (K1.out)) (HT.out.later (K1.out)) s1 s2 s3 s4 s5 ca cb cd ce seq tok at' dg (now+1) nn la true true HA).mono ?_
    rintro e z2 ⟨u,tv,rfl,hU,hT,bz2⟩
    have K2:=hZq (below2Z K1.out bz2)
    have D2:=hZq (heldB_up K2.out D0.out)
    obtain⟨xaua,xauc,rfl,-⟩:=hU.open'
    obtain⟨xata,xatc,rfl,-⟩:=hT.open'
    have QX:=hZq hU
    have TX:=hZq hT
    clear hU hT
    clear bz2
    go_wp2_with fail
    refine hK.out _ _ ?_ (fun hHeld2 => ?_)
    ·exact D2.out
    clear hK Kx hHeld
    have hHeld:=hHeld2
    clear hHeld2
    try simp only [Act.put,List.setIfInBounds_toArray,List.set_cons_zero,List.set_cons_succ]
    refine wpAnyH_ready (rs:=[9]) (by as_aux_lemma => kernel_rfl) (by simp) ?_
    refine AllReadyH.cons rfl (fun Kx hK => ?_) AllReadyH.nil
    go_simp
    refine hK.out _ _ ?_ (fun hHeld2 => ?_)
    ·exact heldB_up (below2Z K2.out (bl_newZ _ _)) D0.out
    clear hK Kx hHeld
    have hHeld:=hHeld2
    clear hHeld2
    try simp only [Act.put,List.setIfInBounds_toArray,List.set_cons_zero,List.set_cons_succ]
    have bz3:=bl_newZ z2 (.cells #[.int .i64 0,.slice none 0 0,.bool false,.int .i64 0,.int .i64 0,.bool false,.int .i64 0,.slice none 0 0,.int .i64 0,.bool false] 41)
    have K3:=hZq (below2Z K2.out bz3)
    have D3:=hZq (heldB_up K3.out D0.out)
    have nz3:=hZq ((MapKept.heap_alloc z2 (.cells #[.int .i64 0,.slice none 0 0,.bool false,.int .i64 0,.int .i64 0,.bool false,.int .i64 0,.slice none 0 0,.int .i64 0,.bool false] 41)).1)
    have hB3:w8.heap.size≤z2.heap.size:=(K2.out).size
    replace QX:=hZq (Chgs.later (QX.out) bz3)
    replace TX:=hZq (Tab.later (TX.out) bz3)
    clear bz3
    generalize z2.alloc (.cells #[.int .i64 0,.slice none 0 0,.bool false,.int .i64 0,.int .i64 0,.bool false,.int .i64 0,.slice none 0 0,.int .i64 0,.bool false] 41)=z3 at K3 D3 nz3 QX TX hHeld ⊢
    generalize z2.heap.size=B3 at nz3 hB3  ⊢
    obtain⟨⟨r0,r1,r2,r3,r4,r5,r6,r7,r8,r9⟩,⟨g0,g1,g2,g3,g4,g5,g6,g7,g8,g9⟩⟩:=blk10 nz3.out
    refine wpAnyH_ready (rs:=[10]) (by as_aux_lemma => kernel_rfl) (by simp) ?_
    refine AllReadyH.cons rfl (fun Kx hK => ?_) AllReadyH.nil
    go_simp
    clear r0 r1 r2 r3 r4 r5 r6 r7 r8 r9 g0 g1 g2 g3 g4 g5 g6 g7 g8 g9
    have YB:=hZq (stN10_heap nz3.out (.int .i64 xas) (.slice xaua xaq.length xauc) (.bool xal) (.int .i64 xat) (.int .i64 xaa) (.bool xan) (.int .i64 xad) (.slice xata xac.length xatc) (.int .i64 xann) (.bool xaoo))
    have KE:=hZq (stN10_below (K3.out) hB3 (.int .i64 xas) (.slice xaua xaq.length xauc) (.bool xal) (.int .i64 xat) (.int .i64 xaa) (.bool xan) (.int .i64 xad) (.slice xata xac.length xatc) (.int .i64 xann) (.bool xaoo))
    have QZ:=hZq (QX.out.nostr (noTx_str (l:=[.int .i64 0,.slice none 0 0,.bool false,.int .i64 0,.int .i64 0,.bool false,.int .i64 0,.slice none 0 0,.int .i64 0,.bool false]) nz3.out rfl) (fun k hk => stN10_far z3 B3 (.int .i64 xas) (.slice xaua xaq.length xauc) (.bool xal) (.int .i64 xat) (.int .i64 xaa) (.bool xan) (.int .i64 xad) (.slice xata xac.length xatc) (.int .i64 xann) (.bool xaoo) hk) (stN10_size z3 B3 (.int .i64 xas) (.slice xaua xaq.length xauc) (.bool xal) (.int .i64 xat) (.int .i64 xaa) (.bool xan) (.int .i64 xad) (.slice xata xac.length xatc) (.int .i64 xann) (.bool xaoo)))
    have TZ:=hZq (TX.out.nostr (noTx_str (l:=[.int .i64 0,.slice none 0 0,.bool false,.int .i64 0,.int .i64 0,.bool false,.int .i64 0,.slice none 0 0,.int .i64 0,.bool false]) nz3.out rfl) (fun k hk => stN10_far z3 B3 (.int .i64 xas) (.slice xaua xaq.length xauc) (.bool xal) (.int .i64 xat) (.int .i64 xaa) (.bool xan) (.int .i64 xad) (.slice xata xac.length xatc) (.int .i64 xann) (.bool xaoo) hk) (stN10_size z3 B3 (.int .i64 xas) (.slice xaua xaq.length xauc) (.bool xal) (.int .i64 xat) (.int .i64 xaa) (.bool xan) (.int .i64 xad) (.slice xata xac.length xatc) (.int .i64 xann) (.bool xaoo)))
    refine hK.out _ _ ?_ (fun hHeld2 => ?_)
    ·exact heldB_up KE.out D0.out
    clear hK Kx hHeld
    have hHeld:=hHeld2
    clear hHeld2
    refine wpAnyH_done (by kernel_rfl) ?_ _
    go_wp2_with fail
    go_meet
    exact⟨B3,xaua,xauc,xata,xatc,rfl,YB,QZ,TZ,KE⟩
   ·go_simp
    refine hK.out _ _ ?_ (fun hHeld2 => ?_)
    ·exact heldB_up (below2Z K1.out (bl_newZ _ _)) D0.out
    clear hK Kx hHeld
    have hHeld:=hHeld2
    clear hHeld2
    try simp only [Act.put,List.setIfInBounds_toArray,List.set_cons_zero,List.set_cons_succ]
    have bz5:=bl_newZ z1 (.cells #[.int .i64 0,.slice none 0 0,.bool false,.int .i64 0,.int .i64 0,.bool false,.int .i64 0,.slice none 0 0,.int .i64 0,.bool false] 41)
    have K5:=hZq (below2Z K1.out bz5)
    have D5:=hZq (heldB_up K5.out D0.out)
    have nz5:=hZq ((MapKept.heap_alloc z1 (.cells #[.int .i64 0,.slice none 0 0,.bool false,.int .i64 0,.int .i64 0,.bool false,.int .i64 0,.slice none 0 0,.int .i64 0,.bool false] 41)).1)
    have hB5:w8.heap.size≤z1.heap.size:=(K1.out).size
    clear bz5
    generalize z1.alloc (.cells #[.int .i64 0,.slice none 0 0,.bool false,.int .i64 0,.int .i64 0,.bool false,.int .i64 0,.slice none 0 0,.int .i64 0,.bool false] 41)=z5 at K5 D5 nz5 hHeld ⊢
    generalize z1.heap.size=B5 at nz5 hB5  ⊢
    refine wpAnyH_ready (rs:=[8]) (by as_aux_lemma => kernel_rfl) (by simp) ?_
    refine AllReadyH.cons rfl (fun Kx hK => ?_) AllReadyH.nil
    go_simp
    refine (rpround (HV.out.later (K5.out)) (HC.out.later (K5.out)) (HT.out.later (K5.out)) s1 s2 s3 s4 s5 ca cb cd ce seq tok at' dg (now+1) nn la true true HA).mono ?_
    rintro e z6 ⟨u,tv,rfl,hU,hT,bz6⟩
    have K6:=hZq (below2Z K5.out bz6)
    have D6:=hZq (heldB_up K6.out D0.out)
    replace nz5:=hZq (((bz6).block _ (Array.getElem?_eq_some_iff.1 (nz5.out)).1).trans (nz5.out))
    obtain⟨xaua,xauc,rfl,-⟩:=hU.open'
    obtain⟨xata,xatc,rfl,-⟩:=hT.open'
    have QX:=hZq hU
    have TX:=hZq hT
    clear hU hT
    clear bz6
    go_wp2_with fail
    refine hK.out _ _ ?_ (fun hHeld2 => ?_)
    ·exact D6.out
    clear hK Kx hHeld
    have hHeld:=hHeld2
    clear hHeld2
    try simp only [Act.put,List.setIfInBounds_toArray,List.set_cons_zero,List.set_cons_succ]
    obtain⟨⟨r0,r1,r2,r3,r4,r5,r6,r7,r8,r9⟩,⟨g0,g1,g2,g3,g4,g5,g6,g7,g8,g9⟩⟩:=blk10 nz5.out
    refine wpAnyH_ready (rs:=[10]) (by as_aux_lemma => kernel_rfl) (by simp) ?_
    refine AllReadyH.cons rfl (fun Kx hK => ?_) AllReadyH.nil
    go_simp
    clear r0 r1 r2 r3 r4 r5 r6 r7 r8 r9 g0 g1 g2 g3 g4 g5 g6 g7 g8 g9
    have YB:=hZq (stN10_heap nz5.out (.int .i64 xas) (.slice xaua xaq.length xauc) (.bool xal) (.int .i64 xat) (.int .i64 xaa) (.bool xan) (.int .i64 xad) (.slice xata xac.length xatc) (.int .i64 xann) (.bool xaoo))
    have KE:=hZq (stN10_below (K6.out) hB5 (.int .i64 xas) (.slice xaua xaq.length xauc) (.bool xal) (.int .i64 xat) (.int .i64 xaa) (.bool xan) (.int .i64 xad) (.slice xata xac.length xatc) (.int .i64 xann) (.bool xaoo))
    have QZ:=hZq (QX.out.nostr (noTx_str (l:=[.int .i64 0,.slice none 0 0,.bool false,.int .i64 0,.int .i64 0,.bool false,.int .i64 0,.slice none 0 0,.int .i64 0,.bool false]) nz5.out rfl) (fun k hk => stN10_far z6 B5 (.int .i64 xas) (.slice xaua xaq.length xauc) (.bool xal) (.int .i64 xat) (.int .i64 xaa) (.bool xan) (.int .i64 xad) (.slice xata xac.length xatc) (.int .i64 xann) (.bool xaoo) hk) (stN10_size z6 B5 (.int .i64 xas) (.slice xaua xaq.length xauc) (.bool xal) (.int .i64 xat) (.int .i64 xaa) (.bool xan) (.int .i64 xad) (.slice xata xac.length xatc) (.int .i64 xann) (.bool xaoo)))
    have TZ:=hZq (TX.out.nostr (noTx_str (l:=[.int .i64 0,.slice none 0 0,.bool false,.int .i64 0,.int .i64 0,.bool false,.int .i64 0,.slice none 0 0,.int .i64 0,.bool false]) nz5.out rfl) (fun k hk => stN10_far z6 B5 (.int .i64 xas) (.slice xaua xaq.length xauc) (.bool xal) (.int .i64 xat) (.int .i64 xaa) (.bool xan) (.int .i64 xad) (.slice xata xac.length xatc) (.int .i64 xann) (.bool xaoo) hk) (stN10_size z6 B5 (.int .i64 xas) (.slice xaua xaq.length xauc) (.bool xal) (.int .i64 xat) (.int .i64 xaa) (.bool xan) (.int .i64 xad) (.slice xata xac.length xatc) (.int .i64 xann) (.bool xaoo)))
    refine hK.out _ _ ?_ (fun hHeld2 => ?_)
    ·exact heldB_up KE.out D0.out
    clear hK Kx hHeld
    have hHeld:=hHeld2
    clear hHeld2
    refine wpAnyH_done (by kernel_rfl) ?_ _
    go_wp2_with fail
    go_meet
    exact⟨B5,xaua,xauc,xata,xatc,rfl,YB,QZ,TZ,KE⟩
  ·go_simp
   refine hK.out _ _ ?_ (fun hHeld2 => ?_)
   ·exact heldB_up (below2Z K0.out (bl_newZ _ _)) D0.out
   clear hK Kx hHeld
   have hHeld:=hHeld2
   clear hHeld2
   try simp only [Act.put,List.setIfInBounds_toArray,List.set_cons_zero,List.set_cons_succ]
   have bz8:=bl_newZ z0 (.cells #[.int .i64 0,.slice none 0 0,.bool false,.int .i64 0,.int .i64 0,.bool false,.int .i64 0,.slice none 0 0,.int .i64 0,.bool false] 41)
   have K8:=hZq (below2Z K0.out bz8)
   have D8:=hZq (heldB_up K8.out D0.out)
   have nz8:=hZq ((MapKept.heap_alloc z0 (.cells #[.int .i64 0,.slice none 0 0,.bool false,.int .i64 0,.int .i64 0,.bool false,.int .i64 0,.slice none 0 0,.int .i64 0,.bool false] 41)).1)
   have hB8:w8.heap.size≤z0.heap.size:=(K0.out).size
   clear bz8
   generalize z0.alloc (.cells #[.int .i64 0,.slice none 0 0,.bool false,.int .i64 0,.int .i64 0,.bool false,.int .i64 0,.slice none 0 0,.int .i64 0,.bool false] 41)=z8 at K8 D8 nz8 hHeld ⊢
   generalize z0.heap.size=B8 at nz8 hB8  ⊢
   refine wpAnyH_ready (rs:=[2]) (by as_aux_lemma => kernel_rfl) (by simp) ?_
   refine AllReadyH.cons rfl (fun Kx hK => ?_) AllReadyH.nil
   go_simp
   refine (rpmine (HV.out.later (K8.out)) (HC.out.later (K8.out)) seq tok at' dg nn la true true).mono ?_
   rintro e z9 ⟨rfl,bz9⟩
   have K9:=hZq (below2Z K8.out bz9)
   have D9:=hZq (heldB_up K9.out D0.out)
   replace nz8:=hZq (((bz9).block _ (Array.getElem?_eq_some_iff.1 (nz8.out)).1).trans (nz8.out))
   clear bz9
   go_wp2_with fail
   refine hK.out _ _ ?_ (fun hHeld2 => ?_)
   ·exact D9.out
   clear hK Kx hHeld
   have hHeld:=hHeld2
   clear hHeld2
   try simp only [Act.put,List.setIfInBounds_toArray,List.set_cons_zero,List.set_cons_succ]
   refine wpAnyH_ready (rs:=[8]) (by as_aux_lemma => kernel_rfl) (by simp) ?_
   refine AllReadyH.cons rfl (fun Kx hK => ?_) AllReadyH.nil
   go_simp
   refine (rpround (HV.out.later (K9.out)) (HC.out.later (K9.out)) (HT.out.later (K9.out)) s1 s2 s3 s4 s5 ca cb cd ce seq tok at' dg (now+1) nn la true true HA).mono ?_
   rintro e z10 ⟨u,tv,rfl,hU,hT,bz10⟩
   have K10:=hZq (below2Z K9.out bz10)
   have D10:=hZq (heldB_up K10.out D0.out)
   replace nz8:=hZq (((bz10).block _ (Array.getElem?_eq_some_iff.1 (nz8.out)).1).trans (nz8.out))
   obtain⟨xaua,xauc,rfl,-⟩:=hU.open'
   obtain⟨xata,xatc,rfl,-⟩:=hT.open'
   have QX:=hZq hU
   have TX:=hZq hT
   clear hU hT
   clear bz10
   go_wp2_with fail
   refine hK.out _ _ ?_ (fun hHeld2 => ?_)
   ·exact D10.out
   clear hK Kx hHeld
   have hHeld:=hHeld2
   clear hHeld2
   try simp only [Act.put,List.setIfInBounds_toArray,List.set_cons_zero,List.set_cons_succ]
   obtain⟨⟨r0,r1,r2,r3,r4,r5,r6,r7,r8,r9⟩,⟨g0,g1,g2,g3,g4,g5,g6,g7,g8,g9⟩⟩:=blk10 nz8.out
   refine wpAnyH_ready (rs:=[10]) (by as_aux_lemma => kernel_rfl) (by simp) ?_
   refine AllReadyH.cons rfl (fun Kx hK => ?_) AllReadyH.nil
   go_simp
   clear r0 r1 r2 r3 r4 r5 r6 r7 r8 r9 g0 g1 g2 g3 g4 g5 g6 g7 g8 g9
   have YB:=hZq (stN10_heap nz8.out (.int .i64 xas) (.slice xaua xaq.length xauc) (.bool xal) (.int .i64 xat) (.int .i64 xaa) (.bool xan) (.int .i64 xad) (.slice xata xac.length xatc) (.int .i64 xann) (.bool xaoo))
   have KE:=hZq (stN10_below (K10.out) hB8 (.int .i64 xas) (.slice xaua xaq.length xauc) (.bool xal) (.int .i64 xat) (.int .i64 xaa) (.bool xan) (.int .i64 xad) (.slice xata xac.length xatc) (.int .i64 xann) (.bool xaoo))
   have QZ:=hZq (QX.out.nostr (noTx_str (l:=[.int .i64 0,.slice none 0 0,.bool false,.int .i64 0,.int .i64 0,.bool false,.int .i64 0,.slice none 0 0,.int .i64 0,.bool false]) nz8.out rfl) (fun k hk => stN10_far z10 B8 (.int .i64 xas) (.slice xaua xaq.length xauc) (.bool xal) (.int .i64 xat) (.int .i64 xaa) (.bool xan) (.int .i64 xad) (.slice xata xac.length xatc) (.int .i64 xann) (.bool xaoo) hk) (stN10_size z10 B8 (.int .i64 xas) (.slice xaua xaq.length xauc) (.bool xal) (.int .i64 xat) (.int .i64 xaa) (.bool xan) (.int .i64 xad) (.slice xata xac.length xatc) (.int .i64 xann) (.bool xaoo)))
   have TZ:=hZq (TX.out.nostr (noTx_str (l:=[.int .i64 0,.slice none 0 0,.bool false,.int .i64 0,.int .i64 0,.bool false,.int .i64 0,.slice none 0 0,.int .i64 0,.bool false]) nz8.out rfl) (fun k hk => stN10_far z10 B8 (.int .i64 xas) (.slice xaua xaq.length xauc) (.bool xal) (.int .i64 xat) (.int .i64 xaa) (.bool xan) (.int .i64 xad) (.slice xata xac.length xatc) (.int .i64 xann) (.bool xaoo) hk) (stN10_size z10 B8 (.int .i64 xas) (.slice xaua xaq.length xauc) (.bool xal) (.int .i64 xat) (.int .i64 xaa) (.bool xan) (.int .i64 xad) (.slice xata xac.length xatc) (.int .i64 xann) (.bool xaoo)))
   refine hK.out _ _ ?_ (fun hHeld2 => ?_)
   ·exact heldB_up KE.out D0.out
   clear hK Kx hHeld
   have hHeld:=hHeld2
   clear hHeld2
   refine wpAnyH_done (by kernel_rfl) ?_ _
   go_wp2_with fail
   go_meet
   exact⟨B8,xaua,xauc,xata,xatc,rfl,YB,QZ,TZ,KE⟩
 case rest =>
  obtain⟨Bxa,xaua,xauc,xata,xatc,rfl,LN,QN,TN,KB⟩:=hcut
  obtain⟨w9,hw9⟩ : ∃ X,X=wc:=⟨_,rfl⟩
  subst hw9
  replace GB:=hZq (upQ GB.out KB.out)
  replace XB:=hZq (upQ XB.out KB.out)
  replace VB:=hZq (upQ VB.out KB.out)
  replace HV:=hZq (HV.out.later KB.out)
  replace HC:=hZq (HC.out.later KB.out)
  replace HT:=hZq (HT.out.later KB.out)
  replace HB:=hZq (below2Z HB.out KB.out)
  clear KB
  have Sxa:=LN
  have Qxa:=QN
  have Txa:=TN
  clear LN QN TN
  have XBk5:=ckZ XB.out 5 _ rfl
  have VBk0:=ckZ VB.out 0 _ rfl
  go_wp2_with (with_reducible refine ldG aggSide _ rfl rfl (Bxa) 0 rfl Sxa.out [.int .i64 xas,.slice xaua xaq.length xauc,.bool xal,.int .i64 xat,.int .i64 xaa,.bool xan,.int .i64 xad,.slice xata xac.length xatc,.int .i64 xann,.bool xaoo] rfl rfl ?_)
  clear XBk5 VBk0
  refine (rpsync_any Qxa.out Txa.out HT.out HS1).mono ?_
  rintro e w10 ⟨rfl,b10⟩
  replace GB:=hZq (upQ GB.out b10)
  replace XB:=hZq (upQ XB.out b10)
  replace VB:=hZq (upQ VB.out b10)
  replace Sxa:=hZq (upQ Sxa.out b10)
  replace HV:=hZq (HV.out.later b10)
  replace HC:=hZq (HC.out.later b10)
  replace HT:=hZq (HT.out.later b10)
  replace Qxa:=hZq (Chgs.later Qxa.out b10)
  replace Txa:=hZq (Tab.later Txa.out b10)
  replace HB:=hZq (below2Z HB.out b10)
  clear b10
  have VBk0:=ckZ VB.out 0 _ rfl
  have VBk1:=ckZ VB.out 1 _ rfl
  go_wp2_with (first | (with_reducible refine ldA aggCfg _ rfl rfl (w.heap.size) 0 rfl GB.out [.int .i64 ca,.int .i64 cb,.int .i64 cd,.int .i64 ce] rfl rfl ?_) | (with_reducible refine ldA aggSide _ rfl rfl (Bxa) 0 rfl Sxa.out [.int .i64 xas,.slice xaua xaq.length xauc,.bool xal,.int .i64 xat,.int .i64 xaa,.bool xan,.int .i64 xad,.slice xata xac.length xatc,.int .i64 xann,.bool xaoo] rfl rfl ?_))
  clear VBk0 VBk1
  refine (rpround Qxa.out Txa.out HT.out HSA.out.sc HSA.out.ql HSA.out.st HSA.out.tl s5 ca cb cd ce xas xat xaa xad (now+2) xann xal xan xaoo HBS).mono ?_
  rintro e w11 ⟨u,tv,rfl,hU,hT,b11⟩
  replace GB:=hZq (upQ GB.out b11)
  replace XB:=hZq (upQ XB.out b11)
  replace VB:=hZq (upQ VB.out b11)
  replace Sxa:=hZq (upQ Sxa.out b11)
  replace HV:=hZq (HV.out.later b11)
  replace HC:=hZq (HC.out.later b11)
  replace HT:=hZq (HT.out.later b11)
  replace Qxa:=hZq (Chgs.later Qxa.out b11)
  replace Txa:=hZq (Tab.later Txa.out b11)
  replace HB:=hZq (below2Z HB.out b11)
  obtain⟨xbua,xbuc,rfl,-⟩:=hU.open'
  obtain⟨xbta,xbtc,rfl,-⟩:=hT.open'
  have Qxb:=hZq hU
  have Txb:=hZq hT
  clear hU hT
  clear b11
  have hsGB:=(Array.getElem?_eq_some_iff.1 GB.out).1
  have hsXB:=(Array.getElem?_eq_some_iff.1 XB.out).1
  have hsVB:=(Array.getElem?_eq_some_iff.1 VB.out).1
  have hsSxa:=(Array.getElem?_eq_some_iff.1 Sxa.out).1
  have b12:=bl_newZ w11 (.cells #[.int .i64 0,.slice none 0 0,.bool false,.int .i64 0,.int .i64 0,.bool false,.int .i64 0,.slice none 0 0,.int .i64 0,.bool false] 41)
  have SB_:=newQ w11 (.cells #[.int .i64 0,.slice none 0 0,.bool false,.int .i64 0,.int .i64 0,.bool false,.int .i64 0,.slice none 0 0,.int .i64 0,.bool false] 41)
  have hSB_:w.heap.size≤w11.heap.size:=HB.out.size
  replace GB:=hZq (upQ GB.out b12)
  replace XB:=hZq (upQ XB.out b12)
  replace VB:=hZq (upQ VB.out b12)
  replace Sxa:=hZq (upQ Sxa.out b12)
  replace HV:=hZq (HV.out.later b12)
  replace HC:=hZq (HC.out.later b12)
  replace HT:=hZq (HT.out.later b12)
  replace Qxa:=hZq (Chgs.later Qxa.out b12)
  replace Txa:=hZq (Tab.later Txa.out b12)
  replace Qxb:=hZq (Chgs.later Qxb.out b12)
  replace Txb:=hZq (Tab.later Txb.out b12)
  replace HB:=hZq (below2Z HB.out b12)
  clear b12
  replace SB_:=hZq SB_
  go_wp2_with (with_reducible refine stA aggSide _ _ rfl rfl (w11.heap.size) 0 rfl SB_.out [.int .i64 xbs,.slice xbua xbq.length xbuc,.bool xbl,.int .i64 xbt,.int .i64 xba,.bool xbn,.int .i64 xbd,.slice xbta xbc.length xbtc,.int .i64 xbnn,.bool xboo] rfl rfl (Nat.le_of_ble_eq_true rfl) rfl [.int .i64 xbs,.slice xbua xbq.length xbuc,.bool xbl,.int .i64 xbt,.int .i64 xba,.bool xbn,.int .i64 xbd,.slice xbta xbc.length xbtc,.int .i64 xbnn,.bool xboo] rfl ?_)
  intro w13 hst
  have HBz:=hZq (hst.bel HB.out (show w.heap.size≤w11.heap.size by omega))
  have GBz:=hZq (hst.keep GB.out (show ¬ w.heap.size=w11.heap.size by omega))
  have XBz:=hZq (hst.keep XB.out (show ¬ w.heap.size+1=w11.heap.size by omega))
  have VBz:=hZq (hst.keep VB.out (show ¬ w.heap.size+1+1=w11.heap.size by omega))
  have Sxaz:=hZq (hst.keep Sxa.out (show ¬ Bxa=w11.heap.size by omega))
  have SB_z:=hZq hst.at'
  have HVz:=hZq (Chgs.sta HV.out hst SB_.out rfl)
  have HCz:=hZq (Tab.sta HC.out hst SB_.out rfl)
  have HTz:=hZq (Tab.sta HT.out hst SB_.out rfl)
  have Qxaz:=hZq (Chgs.sta Qxa.out hst SB_.out rfl)
  have Txaz:=hZq (Tab.sta Txa.out hst SB_.out rfl)
  have Qxbz:=hZq (Chgs.sta Qxb.out hst SB_.out rfl)
  have Txbz:=hZq (Tab.sta Txb.out hst SB_.out rfl)
  clear hst HB GB XB VB Sxa SB_ HV HC HT Qxa Txa Qxb Txb
  have HB:=HBz
  have GB:=GBz
  have XB:=XBz
  have VB:=VBz
  have Sxa:=Sxaz
  have SB_:=SB_z
  have HV:=HVz
  have HC:=HCz
  have HT:=HTz
  have Qxa:=Qxaz
  have Txa:=Txaz
  have Qxb:=Qxbz
  have Txb:=Txbz
  clear HBz GBz XBz VBz Sxaz SB_z HVz HCz HTz Qxaz Txaz Qxbz Txbz
  generalize w11.heap.size=BSB_ at SB_ hSB_ hsGB hsXB hsVB hsSxa ⊢
  have dSB_GB:¬ w.heap.size=BSB_:=by omega
  have dSB_XB:¬ w.heap.size+1=BSB_:=by omega
  have dSB_VB:¬ w.heap.size+1+1=BSB_:=by omega
  have dSB_Sxa:¬ Bxa=BSB_:=by omega
  have eSB_GB:¬ BSB_=w.heap.size:=by omega
  have eSB_XB:¬ BSB_=w.heap.size+1:=by omega
  have eSB_VB:¬ BSB_=w.heap.size+1+1:=by omega
  have eSB_Sxa:¬ BSB_=Bxa:=by omega
  clear hsGB hsXB hsVB hsSxa
  have VBk0:=ckZ VB.out 0 _ rfl
  go_wp2_with (with_reducible refine ldA aggSide _ rfl rfl (BSB_) 0 rfl SB_.out [.int .i64 xbs,.slice xbua xbq.length xbuc,.bool xbl,.int .i64 xbt,.int .i64 xba,.bool xbn,.int .i64 xbd,.slice xbta xbc.length xbtc,.int .i64 xbnn,.bool xboo] rfl rfl ?_)
  clear VBk0
  refine (rpsync_any Qxb.out Txb.out HT.out HS2).mono ?_
  rintro e w14 ⟨rfl,b14⟩
  replace GB:=hZq (upQ GB.out b14)
  replace XB:=hZq (upQ XB.out b14)
  replace VB:=hZq (upQ VB.out b14)
  replace Sxa:=hZq (upQ Sxa.out b14)
  replace SB_:=hZq (upQ SB_.out b14)
  replace HV:=hZq (HV.out.later b14)
  replace HC:=hZq (HC.out.later b14)
  replace HT:=hZq (HT.out.later b14)
  replace Qxa:=hZq (Chgs.later Qxa.out b14)
  replace Txa:=hZq (Tab.later Txa.out b14)
  replace Qxb:=hZq (Chgs.later Qxb.out b14)
  replace Txb:=hZq (Tab.later Txb.out b14)
  replace HB:=hZq (below2Z HB.out b14)
  clear b14
  go_wp2_with (with_reducible refine ldG aggLink _ rfl rfl (BSB_) 0 rfl SB_.out [.int .i64 xbs,.slice xbua xbq.length xbuc,.bool xbl,.int .i64 xbt,.int .i64 xba,.bool xbn,.int .i64 xbd] rfl rfl ?_)
  refine (lquiet_any Qxb.out xbl xbn xbs xbt xba xbd HQ).mono ?_
  rintro e w15 ⟨rfl,b15⟩
  replace GB:=hZq (upQ GB.out b15)
  replace XB:=hZq (upQ XB.out b15)
  replace VB:=hZq (upQ VB.out b15)
  replace Sxa:=hZq (upQ Sxa.out b15)
  replace SB_:=hZq (upQ SB_.out b15)
  replace HV:=hZq (HV.out.later b15)
  replace HC:=hZq (HC.out.later b15)
  replace HT:=hZq (HT.out.later b15)
  replace Qxa:=hZq (Chgs.later Qxa.out b15)
  replace Txa:=hZq (Tab.later Txa.out b15)
  replace Qxb:=hZq (Chgs.later Qxb.out b15)
  replace Txb:=hZq (Tab.later Txb.out b15)
  replace HB:=hZq (below2Z HB.out b15)
  clear b15
  go_wp2_with (with_reducible refine ldG aggCli _ rfl rfl (BSB_) 7 rfl SB_.out [.slice xbta xbc.length xbtc,.int .i64 xbnn,.bool xboo] rfl rfl ?_)
  refine (clmay_eq Txb.out HSB.out.st xbnn xboo HCB).mono ?_
  rintro e w16 ⟨rfl,b16⟩
  replace GB:=hZq (upQ GB.out b16)
  replace XB:=hZq (upQ XB.out b16)
  replace VB:=hZq (upQ VB.out b16)
  replace Sxa:=hZq (upQ Sxa.out b16)
  replace SB_:=hZq (upQ SB_.out b16)
  replace HV:=hZq (HV.out.later b16)
  replace HC:=hZq (HC.out.later b16)
  replace HT:=hZq (HT.out.later b16)
  replace Qxa:=hZq (Chgs.later Qxa.out b16)
  replace Txa:=hZq (Tab.later Txa.out b16)
  replace Qxb:=hZq (Chgs.later Qxb.out b16)
  replace Txb:=hZq (Tab.later Txb.out b16)
  replace HB:=hZq (below2Z HB.out b16)
  clear b16
  go_wp2_with (with_reducible refine ldG aggCfg _ rfl rfl (w.heap.size) 0 rfl GB.out [.int .i64 ca,.int .i64 cb,.int .i64 cd,.int .i64 ce] rfl rfl ?_)
  refine (rpmay_any ca cb cd ce HPM _).mono ?_
  rintro e w17 ⟨rfl,b17⟩
  replace GB:=hZq (upQ GB.out b17)
  replace XB:=hZq (upQ XB.out b17)
  replace VB:=hZq (upQ VB.out b17)
  replace Sxa:=hZq (upQ Sxa.out b17)
  replace SB_:=hZq (upQ SB_.out b17)
  replace HV:=hZq (HV.out.later b17)
  replace HC:=hZq (HC.out.later b17)
  replace HT:=hZq (HT.out.later b17)
  replace Qxa:=hZq (Chgs.later Qxa.out b17)
  replace Txa:=hZq (Tab.later Txa.out b17)
  replace Qxb:=hZq (Chgs.later Qxb.out b17)
  replace Txb:=hZq (Tab.later Txb.out b17)
  replace HB:=hZq (below2Z HB.out b17)
  clear b17
  go_wp2_with fail
  refine (live20 _).mono ?_
  rintro e w18 ⟨rfl,b18⟩
  replace HB:=hZq (below2Z HB.out b18)
  clear b18
  go_wp2_with fail
  go_ret
  exact⟨rfl,HB.out⟩

theorem rso_f {w:World} {v cv vv:Value} {ql:List Chg} {ct view:List Row} (hv:Chgs w v ql) (hc:Tab w cv ct) (ht:Tab w vv view) (ca cb cd ce seq tok at' dg nn now rounds:Int) (la:Bool) (HF:Hid ((fewC ql 30 && fewT ct)=true)) (HG:Hid (fewT view=true)) (HL:Hid (lnMay ⟨ca,cb,cd,ce⟩ ⟨seq,⟨ql,la⟩,⟨tok,at'⟩,true,dg⟩=true)) (HC0:Hid (clMay ⟨ct,nn,false⟩=true)) (HD:Hid (diMay view=true)) (hb:¬ now < 0∧¬ 549755813888 < now∧¬ now < at'∧¬ seq < nn∧¬ 549755813888 < seq) {xas xat xaa xad xann:Int} {xaq:List Chg} {xal xan xaoo:Bool} {xac:List Row} {xbs xbt xba xbd xbnn:Int} {xbq:List Chg} {xbl xbn xboo:Bool} {xbc:List Row} (HA:Hid (rpRound ⟨ca,cb,cd,ce⟩ view (now+1) (⟨seq,⟨ql,la⟩,⟨tok,at'⟩,true,dg⟩,(⟨ct,nn,false⟩ : Cli))=(⟨xas,⟨xaq,xal⟩,⟨xat,xaa⟩,xan,xad⟩,(⟨xac,xann,xaoo⟩ : Cli)))) (HBS:Hid (rpRound ⟨ca,cb,cd,ce⟩ view (now+2) (⟨xas,⟨xaq,xal⟩,⟨xat,xaa⟩,xan,xad⟩,(⟨xac,xann,xaoo⟩ : Cli))=(⟨xbs,⟨xbq,xbl⟩,⟨xbt,xba⟩,xbn,xbd⟩,(⟨xbc,xbnn,xboo⟩ : Cli)))) (HS1:Hid (rpSynced (⟨xas,⟨xaq,xal⟩,⟨xat,xaa⟩,xan,xad⟩,(⟨xac,xann,xaoo⟩ : Cli)) view=true)) (HS2:Hid (rpSynced (⟨xbs,⟨xbq,xbl⟩,⟨xbt,xba⟩,xbn,xbd⟩,(⟨xbc,xbnn,xboo⟩ : Cli)) view=true)) (HQ:Hid (lnQuiet ⟨xbs,⟨xbq,xbl⟩,⟨xbt,xba⟩,xbn,xbd⟩=true)) (HCB:Hid (clMay ⟨xbc,xbnn,xboo⟩=true)) (HPM:Hid (pcMay ⟨ca,cb,cd,ce⟩=true)) :
  Calls Tryz.prog 7 #[.agg #[.int .i64 ca,.int .i64 cb,.int .i64 cd,.int .i64 ce],.agg #[.int .i64 seq,v,.bool la,.int .i64 tok,.int .i64 at',.bool true,.int .i64 dg,cv,.int .i64 nn,.bool false],.agg #[vv,.int .i64 now,.int .i64 rounds]] w fun e w' => e=.returned (.bool true)∧Below w.heap.size w w':=by
 obtain⟨s1,s2,s3,s4⟩:=few_short HF.out
 have s5:Short view:=fun r hr => by have:=((fewT_yes HG.out).2 r hr); omega
 obtain⟨k0,k1,k2,k3,k4⟩:=hb
 have w1:IntKind.i64.wrap (now+1)=now+1:=IntWalk.i64_in _ (by omega)
 have w2:IntKind.i64.wrap (now+2)=now+2:=IntWalk.i64_in _ (by omega)
 have HSA:=hZq (round_fit (cfg:=⟨ca,cb,cd,ce⟩) (view:=view) (now:=now+1) (RpFit.mk (s:=(⟨seq,⟨ql,la⟩,⟨tok,at'⟩,true,dg⟩,(⟨ct,nn,false⟩ : Cli))) s1 s2 s3 s4))
 rw [HA.out] at HSA
 have HSB:=hZq (round_fit (cfg:=⟨ca,cb,cd,ce⟩) (view:=view) (now:=now+2) HSA.out)
 rw [HBS.out] at HSB
 have gd5123:decide (now < 0)=false:=by rw [decide_eq_false_iff_not]; omega
 have gd2275:decide (549755813888 < now)=false:=by rw [decide_eq_false_iff_not]; omega
 have gd4636:decide (now < at')=false:=by rw [decide_eq_false_iff_not]; omega
 have gd3181:decide (seq < nn)=false:=by rw [decide_eq_false_iff_not]; omega
 have gd822:decide (549755813888 < seq)=false:=by rw [decide_eq_false_iff_not]; omega
 have HC1:=HC0
 clear HC0
 obtain⟨qa,qc,rfl,-⟩:=hv.open'
 obtain⟨ta,tc,rfl,-⟩:=hc.open'
 obtain⟨va,vc,rfl,-⟩:=ht.open'
 obtain⟨GB,XB,VB,HB⟩:=ent3 w (.cells #[.int .i64 ca,.int .i64 cb,.int .i64 cd,.int .i64 ce] 23) (.cells #[.int .i64 seq,.slice qa ql.length qc,.bool la,.int .i64 tok,.int .i64 at',.bool true,.int .i64 dg,.slice ta ct.length tc,.int .i64 nn,.bool false] 35) (.cells #[.slice va view.length vc,.int .i64 now,.int .i64 rounds] 37)
 have HV:=hZq ((hv).later HB.out)
 have HC:=hZq ((hc).later HB.out)
 have HT:=hZq ((ht).later HB.out)
 clear hv hc ht
 go_enter Tryz.func7,Tryz.ntmps7
 have VBk0:=ckZ VB.out 0 _ rfl
 have VBk1:=ckZ VB.out 1 _ rfl
 have VBk2:=ckZ VB.out 2 _ rfl
 have XBk0:=ckZ XB.out 0 _ rfl
 have XBk4:=ckZ XB.out 4 _ rfl
 have XBk5:=ckZ XB.out 5 _ rfl
 have XBk6:=ckZ XB.out 6 _ rfl
 have XBk8:=ckZ XB.out 8 _ rfl
 have XBk9:=ckZ XB.out 9 _ rfl
 have GBk3:=ckZ GB.out 3 _ rfl
 go_wp2_with (with_reducible refine ldA aggRSide _ rfl rfl (w.heap.size+1) 0 rfl XB.out [.int .i64 seq,.slice qa ql.length qc,.bool la,.int .i64 tok,.int .i64 at',.bool true,.int .i64 dg,.slice ta ct.length tc,.int .i64 nn,.bool false] rfl rfl ?_)
 clear VBk0 VBk1 VBk2 XBk0 XBk4 XBk5 XBk6 XBk8 XBk9 GBk3
 refine (rrpfew HV.out HC.out seq tok at' dg nn la true false HF).mono ?_
 rintro e w4 ⟨rfl,b4⟩
 replace GB:=hZq (upQ GB.out b4)
 replace XB:=hZq (upQ XB.out b4)
 replace VB:=hZq (upQ VB.out b4)
 replace HV:=hZq (HV.out.later b4)
 replace HC:=hZq (HC.out.later b4)
 replace HT:=hZq (HT.out.later b4)
 replace HB:=hZq (below2Z HB.out b4)
 clear b4
 have VBk0:=ckZ VB.out 0 _ rfl
 have VBk1:=ckZ VB.out 1 _ rfl
 have VBk2:=ckZ VB.out 2 _ rfl
 have XBk0:=ckZ XB.out 0 _ rfl
 have XBk4:=ckZ XB.out 4 _ rfl
 have XBk5:=ckZ XB.out 5 _ rfl
 have XBk6:=ckZ XB.out 6 _ rfl
 have XBk8:=ckZ XB.out 8 _ rfl
 have XBk9:=ckZ XB.out 9 _ rfl
 have GBk3:=ckZ GB.out 3 _ rfl
 go_wp2_with fail
 clear VBk0 VBk1 VBk2 XBk0 XBk4 XBk5 XBk6 XBk8 XBk9 GBk3
 refine (fewt_eqL HT.out HG).mono ?_
 rintro e w5 ⟨rfl,b5⟩
 replace GB:=hZq (upQ GB.out b5)
 replace XB:=hZq (upQ XB.out b5)
 replace VB:=hZq (upQ VB.out b5)
 replace HV:=hZq (HV.out.later b5)
 replace HC:=hZq (HC.out.later b5)
 replace HT:=hZq (HT.out.later b5)
 replace HB:=hZq (below2Z HB.out b5)
 clear b5
 have VBk0:=ckZ VB.out 0 _ rfl
 have VBk1:=ckZ VB.out 1 _ rfl
 have VBk2:=ckZ VB.out 2 _ rfl
 have XBk0:=ckZ XB.out 0 _ rfl
 have XBk4:=ckZ XB.out 4 _ rfl
 have XBk5:=ckZ XB.out 5 _ rfl
 have XBk6:=ckZ XB.out 6 _ rfl
 have XBk8:=ckZ XB.out 8 _ rfl
 have XBk9:=ckZ XB.out 9 _ rfl
 have GBk3:=ckZ GB.out 3 _ rfl
 go_wp2_with (first | (with_reducible refine ldG aggCfg _ rfl rfl (w.heap.size) 0 rfl GB.out [.int .i64 ca,.int .i64 cb,.int .i64 cd,.int .i64 ce] rfl rfl ?_) | (with_reducible refine ldG aggLink _ rfl rfl (w.heap.size+1) 0 rfl XB.out [.int .i64 seq,.slice qa ql.length qc,.bool la,.int .i64 tok,.int .i64 at',.bool true,.int .i64 dg] rfl rfl ?_))
 clear VBk0 VBk1 VBk2 XBk0 XBk4 XBk5 XBk6 XBk8 XBk9 GBk3
 refine (rlmay_any HV.out s1 s2 la true seq tok at' dg ca cb cd ce HL).mono ?_
 rintro e w6 ⟨rfl,b6⟩
 replace GB:=hZq (upQ GB.out b6)
 replace XB:=hZq (upQ XB.out b6)
 replace VB:=hZq (upQ VB.out b6)
 replace HV:=hZq (HV.out.later b6)
 replace HC:=hZq (HC.out.later b6)
 replace HT:=hZq (HT.out.later b6)
 replace HB:=hZq (below2Z HB.out b6)
 clear b6
 have VBk0:=ckZ VB.out 0 _ rfl
 have VBk1:=ckZ VB.out 1 _ rfl
 have VBk2:=ckZ VB.out 2 _ rfl
 have XBk0:=ckZ XB.out 0 _ rfl
 have XBk4:=ckZ XB.out 4 _ rfl
 have XBk5:=ckZ XB.out 5 _ rfl
 have XBk6:=ckZ XB.out 6 _ rfl
 have XBk8:=ckZ XB.out 8 _ rfl
 have XBk9:=ckZ XB.out 9 _ rfl
 have GBk3:=ckZ GB.out 3 _ rfl
 go_wp2_with (with_reducible refine ldG aggCli _ rfl rfl (w.heap.size+1) 7 rfl XB.out [.slice ta ct.length tc,.int .i64 nn,.bool false] rfl rfl ?_)
 clear VBk0 VBk1 VBk2 XBk0 XBk4 XBk5 XBk6 XBk8 XBk9 GBk3
 refine (rclmay_eq HC.out s3 nn false HC1).mono ?_
 rintro e w7 ⟨rfl,b7⟩
 replace GB:=hZq (upQ GB.out b7)
 replace XB:=hZq (upQ XB.out b7)
 replace VB:=hZq (upQ VB.out b7)
 replace HV:=hZq (HV.out.later b7)
 replace HC:=hZq (HC.out.later b7)
 replace HT:=hZq (HT.out.later b7)
 replace HB:=hZq (below2Z HB.out b7)
 clear b7
 have VBk0:=ckZ VB.out 0 _ rfl
 have VBk1:=ckZ VB.out 1 _ rfl
 have VBk2:=ckZ VB.out 2 _ rfl
 have XBk0:=ckZ XB.out 0 _ rfl
 have XBk4:=ckZ XB.out 4 _ rfl
 have XBk5:=ckZ XB.out 5 _ rfl
 have XBk6:=ckZ XB.out 6 _ rfl
 have XBk8:=ckZ XB.out 8 _ rfl
 have XBk9:=ckZ XB.out 9 _ rfl
 have GBk3:=ckZ GB.out 3 _ rfl
 go_wp2_with fail
 clear VBk0 VBk1 VBk2 XBk0 XBk4 XBk5 XBk6 XBk8 XBk9 GBk3
 refine (rdimay_eq HT.out s5 HD).mono ?_
 rintro e w8 ⟨rfl,b8⟩
 replace GB:=hZq (upQ GB.out b8)
 replace XB:=hZq (upQ XB.out b8)
 replace VB:=hZq (upQ VB.out b8)
 replace HV:=hZq (HV.out.later b8)
 replace HC:=hZq (HC.out.later b8)
 replace HT:=hZq (HT.out.later b8)
 replace HB:=hZq (below2Z HB.out b8)
 clear b8
 have VBk0:=ckZ VB.out 0 _ rfl
 have VBk1:=ckZ VB.out 1 _ rfl
 have VBk2:=ckZ VB.out 2 _ rfl
 have XBk0:=ckZ XB.out 0 _ rfl
 have XBk4:=ckZ XB.out 4 _ rfl
 have XBk5:=ckZ XB.out 5 _ rfl
 have XBk6:=ckZ XB.out 6 _ rfl
 have XBk8:=ckZ XB.out 8 _ rfl
 have XBk9:=ckZ XB.out 9 _ rfl
 have GBk3:=ckZ GB.out 3 _ rfl
 go_upto_region 5 with fail
 clear VBk0 VBk1 VBk2 XBk0 XBk4 XBk5 XBk6 XBk8 XBk9 GBk3
 go_upto_region 5 with fail
 go_cut [7] from 83 to 91 (fun pp wx => ∃ B xaua xauc xata xatc,pp=.pointer (some ⟨B,0,none⟩)∧Hid (wx.heap[B]?=some (.cells #[.int .i64 xas,.slice xaua xaq.length xauc,.bool xal,.int .i64 xat,.int .i64 xaa,.bool xan,.int .i64 xad,.slice xata xac.length xatc,.int .i64 xann,.bool xaoo] 41 (0,0)))∧Hid (Chgs wx (.slice xaua xaq.length xauc) xaq)∧Hid (Tab wx (.slice xata xac.length xatc) xac)∧Hid (Below w8.heap.size w8 wx))
 case first =>
  obtain⟨BS,hBS⟩ : ∃ BS:List (Nat × List Value),BS=[(w.heap.size,[.int .i64 ca,.int .i64 cb,.int .i64 cd,.int .i64 ce]),(w.heap.size+1,[.int .i64 seq,.slice qa ql.length qc,.bool la,.int .i64 tok,.int .i64 at',.bool true,.int .i64 dg,.slice ta ct.length tc,.int .i64 nn,.bool false]),(w.heap.size+1+1,[.slice va view.length vc,.int .i64 now,.int .i64 rounds])]:=⟨_,rfl⟩
  have D0:=hZq (show heldB w8 BS from by rw [hBS]; exact heldB_cons (cellsAt_block GB.out) (heldB_cons (cellsAt_block XB.out) (heldB_cons (cellsAt_block VB.out) (heldB_nil _))))
  have hL:=heldB_at (b:=w.heap.size) (vs:=[.int .i64 ca,.int .i64 cb,.int .i64 cd,.int .i64 ce]) (bs:=BS) (by rw [hBS]; simp)
  have hq0:=hL 0 _ rfl
  have hq1:=hL 1 _ rfl
  have hq2:=hL 2 _ rfl
  have hq3:=hL 3 _ rfl
  clear hL
  have hL:=heldB_at (b:=w.heap.size+1) (vs:=[.int .i64 seq,.slice qa ql.length qc,.bool la,.int .i64 tok,.int .i64 at',.bool true,.int .i64 dg,.slice ta ct.length tc,.int .i64 nn,.bool false]) (bs:=BS) (by rw [hBS]; simp)
  have hq4:=hL 0 _ rfl
  have hq5:=hL 1 _ rfl
  have hq6:=hL 2 _ rfl
  have hq7:=hL 3 _ rfl
  have hq8:=hL 4 _ rfl
  have hq9:=hL 5 _ rfl
  have hq10:=hL 6 _ rfl
  have hq11:=hL 7 _ rfl
  have hq12:=hL 8 _ rfl
  have hq13:=hL 9 _ rfl
  clear hL
  have hL:=heldB_at (b:=w.heap.size+1+1) (vs:=[.slice va view.length vc,.int .i64 now,.int .i64 rounds]) (bs:=BS) (by rw [hBS]; simp)
  have hq14:=hL 0 _ rfl
  have hq15:=hL 1 _ rfl
  have hq16:=hL 2 _ rfl
  clear hL
  clear hBS
  have K0:Hid (Below w8.heap.size w8 w8.drew):=hZq (Below.refl _ _).drew
  refine wp_region_held_drew (S:=(fun X => heldB X BS)) (by kernel_rfl) ?_ (fun hHeld => ?_)
  ·exact heldB_up K0.out D0.out
  generalize w8.drew=z0 at K0 hHeld ⊢
  refine tkZ 0 ?_
  refine tkZ 1 ?_
  refine tkZ 3 ?_
  refine tkZ 4 ?_
  refine tkZ 5 ?_
  refine tkZ 6 ?_
  refine tkZ 7 ?_
  refine wpAnyH_ready (rs:=[2,9]) (by as_aux_lemma => kernel_rfl) (by simp) ?_
  refine AllReadyH.cons rfl (fun Kx hK => ?_) (AllReadyH.cons rfl (fun Kx hK => ?_) (AllReadyH.nil))
  ·go_simp
   refine (rpmine (HV.out.later (K0.out)) (HC.out.later (K0.out)) seq tok at' dg nn la true false).mono ?_
   rintro e z1 ⟨rfl,bz1⟩
   have K1:=hZq (below2Z K0.out bz1)
   have D1:=hZq (heldB_up K1.out D0.out)
   clear bz1
   go_wp2_with fail
   refine hK.out _ _ ?_ (fun hHeld2 => ?_)
   ·exact D1.out
   clear hK Kx hHeld
   have hHeld:=hHeld2
   clear hHeld2
   try simp only [Act.put,List.setIfInBounds_toArray,List.set_cons_zero,List.set_cons_succ]
   refine wpAnyH_ready (rs:=[8,9]) (by as_aux_lemma => kernel_rfl) (by simp) ?_
   refine AllReadyH.cons rfl (fun Kx hK => ?_) (AllReadyH.cons rfl (fun Kx hK => ?_) (AllReadyH.nil))
   ·go_simp
    refine (rpround (HV.out.later (K1.out)) (HC.out.later (K1.out)) (HT.out.later (K1.out)) s1 s2 s3 s4 s5 ca cb cd ce seq tok at' dg (now+1) nn la true false HA).mono ?_
    rintro e z2 ⟨u,tv,rfl,hU,hT,bz2⟩
    have K2:=hZq (below2Z K1.out bz2)
    have D2:=hZq (heldB_up K2.out D0.out)
    obtain⟨xaua,xauc,rfl,-⟩:=hU.open'
    obtain⟨xata,xatc,rfl,-⟩:=hT.open'
    have QX:=hZq hU
    have TX:=hZq hT
    clear hU hT
    clear bz2
    go_wp2_with fail
    refine hK.out _ _ ?_ (fun hHeld2 => ?_)
    ·exact D2.out
    clear hK Kx hHeld
    have hHeld:=hHeld2
    clear hHeld2
    try simp only [Act.put,List.setIfInBounds_toArray,List.set_cons_zero,List.set_cons_succ]
    refine wpAnyH_ready (rs:=[9]) (by as_aux_lemma => kernel_rfl) (by simp) ?_
    refine AllReadyH.cons rfl (fun Kx hK => ?_) AllReadyH.nil
    go_simp
    refine hK.out _ _ ?_ (fun hHeld2 => ?_)
    ·exact heldB_up (below2Z K2.out (bl_newZ _ _)) D0.out
    clear hK Kx hHeld
    have hHeld:=hHeld2
    clear hHeld2
    try simp only [Act.put,List.setIfInBounds_toArray,List.set_cons_zero,List.set_cons_succ]
    have bz3:=bl_newZ z2 (.cells #[.int .i64 0,.slice none 0 0,.bool false,.int .i64 0,.int .i64 0,.bool false,.int .i64 0,.slice none 0 0,.int .i64 0,.bool false] 41)
    have K3:=hZq (below2Z K2.out bz3)
    have D3:=hZq (heldB_up K3.out D0.out)
    have nz3:=hZq ((MapKept.heap_alloc z2 (.cells #[.int .i64 0,.slice none 0 0,.bool false,.int .i64 0,.int .i64 0,.bool false,.int .i64 0,.slice none 0 0,.int .i64 0,.bool false] 41)).1)
    have hB3:w8.heap.size≤z2.heap.size:=(K2.out).size
    replace QX:=hZq (Chgs.later (QX.out) bz3)
    replace TX:=hZq (Tab.later (TX.out) bz3)
    clear bz3
    generalize z2.alloc (.cells #[.int .i64 0,.slice none 0 0,.bool false,.int .i64 0,.int .i64 0,.bool false,.int .i64 0,.slice none 0 0,.int .i64 0,.bool false] 41)=z3 at K3 D3 nz3 QX TX hHeld ⊢
    generalize z2.heap.size=B3 at nz3 hB3  ⊢
    obtain⟨⟨r0,r1,r2,r3,r4,r5,r6,r7,r8,r9⟩,⟨g0,g1,g2,g3,g4,g5,g6,g7,g8,g9⟩⟩:=blk10 nz3.out
    refine wpAnyH_ready (rs:=[10]) (by as_aux_lemma => kernel_rfl) (by simp) ?_
    refine AllReadyH.cons rfl (fun Kx hK => ?_) AllReadyH.nil
    go_simp
    clear r0 r1 r2 r3 r4 r5 r6 r7 r8 r9 g0 g1 g2 g3 g4 g5 g6 g7 g8 g9
    have YB:=hZq (stN10_heap nz3.out (.int .i64 xas) (.slice xaua xaq.length xauc) (.bool xal) (.int .i64 xat) (.int .i64 xaa) (.bool xan) (.int .i64 xad) (.slice xata xac.length xatc) (.int .i64 xann) (.bool xaoo))
    have KE:=hZq (stN10_below (K3.out) hB3 (.int .i64 xas) (.slice xaua xaq.length xauc) (.bool xal) (.int .i64 xat) (.int .i64 xaa) (.bool xan) (.int .i64 xad) (.slice xata xac.length xatc) (.int .i64 xann) (.bool xaoo))
    have QZ:=hZq (QX.out.nostr (noTx_str (l:=[.int .i64 0,.slice none 0 0,.bool false,.int .i64 0,.int .i64 0,.bool false,.int .i64 0,.slice none 0 0,.int .i64 0,.bool false]) nz3.out rfl) (fun k hk => stN10_far z3 B3 (.int .i64 xas) (.slice xaua xaq.length xauc) (.bool xal) (.int .i64 xat) (.int .i64 xaa) (.bool xan) (.int .i64 xad) (.slice xata xac.length xatc) (.int .i64 xann) (.bool xaoo) hk) (stN10_size z3 B3 (.int .i64 xas) (.slice xaua xaq.length xauc) (.bool xal) (.int .i64 xat) (.int .i64 xaa) (.bool xan) (.int .i64 xad) (.slice xata xac.length xatc) (.int .i64 xann) (.bool xaoo)))
    have TZ:=hZq (TX.out.nostr (noTx_str (l:=[.int .i64 0,.slice none 0 0,.bool false,.int .i64 0,.int .i64 0,.bool false,.int .i64 0,.slice none 0 0,.int .i64 0,.bool false]) nz3.out rfl) (fun k hk => stN10_far z3 B3 (.int .i64 xas) (.slice xaua xaq.length xauc) (.bool xal) (.int .i64 xat) (.int .i64 xaa) (.bool xan) (.int .i64 xad) (.slice xata xac.length xatc) (.int .i64 xann) (.bool xaoo) hk) (stN10_size z3 B3 (.int .i64 xas) (.slice xaua xaq.length xauc) (.bool xal) (.int .i64 xat) (.int .i64 xaa) (.bool xan) (.int .i64 xad) (.slice xata xac.length xatc) (.int .i64 xann) (.bool xaoo)))
    refine hK.out _ _ ?_ (fun hHeld2 => ?_)
    ·exact heldB_up KE.out D0.out
    clear hK Kx hHeld
    have hHeld:=hHeld2
    clear hHeld2
    refine wpAnyH_done (by kernel_rfl) ?_ _
    go_wp2_with fail
    go_meet
    exact⟨B3,xaua,xauc,xata,xatc,rfl,YB,QZ,TZ,KE⟩
   ·go_simp
    refine hK.out _ _ ?_ (fun hHeld2 => ?_)
    ·exact heldB_up (below2Z K1.out (bl_newZ _ _)) D0.out
    clear hK Kx hHeld
    have hHeld:=hHeld2
    clear hHeld2
    try simp only [Act.put,List.setIfInBounds_toArray,List.set_cons_zero,List.set_cons_succ]
    have bz5:=bl_newZ z1 (.cells #[.int .i64 0,.slice none 0 0,.bool false,.int .i64 0,.int .i64 0,.bool false,.int .i64 0,.slice none 0 0,.int .i64 0,.bool false] 41)
    have K5:=hZq (below2Z K1.out bz5)
    have D5:=hZq (heldB_up K5.out D0.out)
    have nz5:=hZq ((MapKept.heap_alloc z1 (.cells #[.int .i64 0,.slice none 0 0,.bool false,.int .i64 0,.int .i64 0,.bool false,.int .i64 0,.slice none 0 0,.int .i64 0,.bool false] 41)).1)
    have hB5:w8.heap.size≤z1.heap.size:=(K1.out).size
    clear bz5
    generalize z1.alloc (.cells #[.int .i64 0,.slice none 0 0,.bool false,.int .i64 0,.int .i64 0,.bool false,.int .i64 0,.slice none 0 0,.int .i64 0,.bool false] 41)=z5 at K5 D5 nz5 hHeld ⊢
    generalize z1.heap.size=B5 at nz5 hB5  ⊢
    refine wpAnyH_ready (rs:=[8]) (by as_aux_lemma => kernel_rfl) (by simp) ?_
    refine AllReadyH.cons rfl (fun Kx hK => ?_) AllReadyH.nil
    go_simp
    refine (rpround (HV.out.later (K5.out)) (HC.out.later (K5.out)) (HT.out.later (K5.out)) s1 s2 s3 s4 s5 ca cb cd ce seq tok at' dg (now+1) nn la true false HA).mono ?_
    rintro e z6 ⟨u,tv,rfl,hU,hT,bz6⟩
    have K6:=hZq (below2Z K5.out bz6)
    have D6:=hZq (heldB_up K6.out D0.out)
    replace nz5:=hZq (((bz6).block _ (Array.getElem?_eq_some_iff.1 (nz5.out)).1).trans (nz5.out))
    obtain⟨xaua,xauc,rfl,-⟩:=hU.open'
    obtain⟨xata,xatc,rfl,-⟩:=hT.open'
    have QX:=hZq hU
    have TX:=hZq hT
    clear hU hT
    clear bz6
    go_wp2_with fail
    refine hK.out _ _ ?_ (fun hHeld2 => ?_)
    ·exact D6.out
    clear hK Kx hHeld
    have hHeld:=hHeld2
    clear hHeld2
    try simp only [Act.put,List.setIfInBounds_toArray,List.set_cons_zero,List.set_cons_succ]
    obtain⟨⟨r0,r1,r2,r3,r4,r5,r6,r7,r8,r9⟩,⟨g0,g1,g2,g3,g4,g5,g6,g7,g8,g9⟩⟩:=blk10 nz5.out
    refine wpAnyH_ready (rs:=[10]) (by as_aux_lemma => kernel_rfl) (by simp) ?_
    refine AllReadyH.cons rfl (fun Kx hK => ?_) AllReadyH.nil
    go_simp
    clear r0 r1 r2 r3 r4 r5 r6 r7 r8 r9 g0 g1 g2 g3 g4 g5 g6 g7 g8 g9
    have YB:=hZq (stN10_heap nz5.out (.int .i64 xas) (.slice xaua xaq.length xauc) (.bool xal) (.int .i64 xat) (.int .i64 xaa) (.bool xan) (.int .i64 xad) (.slice xata xac.length xatc) (.int .i64 xann) (.bool xaoo))
    have KE:=hZq (stN10_below (K6.out) hB5 (.int .i64 xas) (.slice xaua xaq.length xauc) (.bool xal) (.int .i64 xat) (.int .i64 xaa) (.bool xan) (.int .i64 xad) (.slice xata xac.length xatc) (.int .i64 xann) (.bool xaoo))
    have QZ:=hZq (QX.out.nostr (noTx_str (l:=[.int .i64 0,.slice none 0 0,.bool false,.int .i64 0,.int .i64 0,.bool false,.int .i64 0,.slice none 0 0,.int .i64 0,.bool false]) nz5.out rfl) (fun k hk => stN10_far z6 B5 (.int .i64 xas) (.slice xaua xaq.length xauc) (.bool xal) (.int .i64 xat) (.int .i64 xaa) (.bool xan) (.int .i64 xad) (.slice xata xac.length xatc) (.int .i64 xann) (.bool xaoo) hk) (stN10_size z6 B5 (.int .i64 xas) (.slice xaua xaq.length xauc) (.bool xal) (.int .i64 xat) (.int .i64 xaa) (.bool xan) (.int .i64 xad) (.slice xata xac.length xatc) (.int .i64 xann) (.bool xaoo)))
    have TZ:=hZq (TX.out.nostr (noTx_str (l:=[.int .i64 0,.slice none 0 0,.bool false,.int .i64 0,.int .i64 0,.bool false,.int .i64 0,.slice none 0 0,.int .i64 0,.bool false]) nz5.out rfl) (fun k hk => stN10_far z6 B5 (.int .i64 xas) (.slice xaua xaq.length xauc) (.bool xal) (.int .i64 xat) (.int .i64 xaa) (.bool xan) (.int .i64 xad) (.slice xata xac.length xatc) (.int .i64 xann) (.bool xaoo) hk) (stN10_size z6 B5 (.int .i64 xas) (.slice xaua xaq.length xauc) (.bool xal) (.int .i64 xat) (.int .i64 xaa) (.bool xan) (.int .i64 xad) (.slice xata xac.length xatc) (.int .i64 xann) (.bool xaoo)))
    refine hK.out _ _ ?_ (fun hHeld2 => ?_)
    ·exact heldB_up KE.out D0.out
    clear hK Kx hHeld
    have hHeld:=hHeld2
    clear hHeld2
    refine wpAnyH_done (by kernel_rfl) ?_ _
    go_wp2_with fail
    go_meet
    exact⟨B5,xaua,xauc,xata,xatc,rfl,YB,QZ,TZ,KE⟩
  ·go_simp
   refine hK.out _ _ ?_ (fun hHeld2 => ?_)
   ·exact heldB_up (below2Z K0.out (bl_newZ _ _)) D0.out
   clear hK Kx hHeld
   have hHeld:=hHeld2
   clear hHeld2
   try simp only [Act.put,List.setIfInBounds_toArray,List.set_cons_zero,List.set_cons_succ]
   have bz8:=bl_newZ z0 (.cells #[.int .i64 0,.slice none 0 0,.bool false,.int .i64 0,.int .i64 0,.bool false,.int .i64 0,.slice none 0 0,.int .i64 0,.bool false] 41)
   have K8:=hZq (below2Z K0.out bz8)
   have D8:=hZq (heldB_up K8.out D0.out)
   have nz8:=hZq ((MapKept.heap_alloc z0 (.cells #[.int .i64 0,.slice none 0 0,.bool false,.int .i64 0,.int .i64 0,.bool false,.int .i64 0,.slice none 0 0,.int .i64 0,.bool false] 41)).1)
   have hB8:w8.heap.size≤z0.heap.size:=(K0.out).size
   clear bz8
   generalize z0.alloc (.cells #[.int .i64 0,.slice none 0 0,.bool false,.int .i64 0,.int .i64 0,.bool false,.int .i64 0,.slice none 0 0,.int .i64 0,.bool false] 41)=z8 at K8 D8 nz8 hHeld ⊢
   generalize z0.heap.size=B8 at nz8 hB8  ⊢
   refine wpAnyH_ready (rs:=[2]) (by as_aux_lemma => kernel_rfl) (by simp) ?_
   refine AllReadyH.cons rfl (fun Kx hK => ?_) AllReadyH.nil
   go_simp
   refine (rpmine (HV.out.later (K8.out)) (HC.out.later (K8.out)) seq tok at' dg nn la true false).mono ?_
   rintro e z9 ⟨rfl,bz9⟩
   have K9:=hZq (below2Z K8.out bz9)
   have D9:=hZq (heldB_up K9.out D0.out)
   replace nz8:=hZq (((bz9).block _ (Array.getElem?_eq_some_iff.1 (nz8.out)).1).trans (nz8.out))
   clear bz9
   go_wp2_with fail
   refine hK.out _ _ ?_ (fun hHeld2 => ?_)
   ·exact D9.out
   clear hK Kx hHeld
   have hHeld:=hHeld2
   clear hHeld2
   try simp only [Act.put,List.setIfInBounds_toArray,List.set_cons_zero,List.set_cons_succ]
   refine wpAnyH_ready (rs:=[8]) (by as_aux_lemma => kernel_rfl) (by simp) ?_
   refine AllReadyH.cons rfl (fun Kx hK => ?_) AllReadyH.nil
   go_simp
   refine (rpround (HV.out.later (K9.out)) (HC.out.later (K9.out)) (HT.out.later (K9.out)) s1 s2 s3 s4 s5 ca cb cd ce seq tok at' dg (now+1) nn la true false HA).mono ?_
   rintro e z10 ⟨u,tv,rfl,hU,hT,bz10⟩
   have K10:=hZq (below2Z K9.out bz10)
   have D10:=hZq (heldB_up K10.out D0.out)
   replace nz8:=hZq (((bz10).block _ (Array.getElem?_eq_some_iff.1 (nz8.out)).1).trans (nz8.out))
   obtain⟨xaua,xauc,rfl,-⟩:=hU.open'
   obtain⟨xata,xatc,rfl,-⟩:=hT.open'
   have QX:=hZq hU
   have TX:=hZq hT
   clear hU hT
   clear bz10
   go_wp2_with fail
   refine hK.out _ _ ?_ (fun hHeld2 => ?_)
   ·exact D10.out
   clear hK Kx hHeld
   have hHeld:=hHeld2
   clear hHeld2
   try simp only [Act.put,List.setIfInBounds_toArray,List.set_cons_zero,List.set_cons_succ]
   obtain⟨⟨r0,r1,r2,r3,r4,r5,r6,r7,r8,r9⟩,⟨g0,g1,g2,g3,g4,g5,g6,g7,g8,g9⟩⟩:=blk10 nz8.out
   refine wpAnyH_ready (rs:=[10]) (by as_aux_lemma => kernel_rfl) (by simp) ?_
   refine AllReadyH.cons rfl (fun Kx hK => ?_) AllReadyH.nil
   go_simp
   clear r0 r1 r2 r3 r4 r5 r6 r7 r8 r9 g0 g1 g2 g3 g4 g5 g6 g7 g8 g9
   have YB:=hZq (stN10_heap nz8.out (.int .i64 xas) (.slice xaua xaq.length xauc) (.bool xal) (.int .i64 xat) (.int .i64 xaa) (.bool xan) (.int .i64 xad) (.slice xata xac.length xatc) (.int .i64 xann) (.bool xaoo))
   have KE:=hZq (stN10_below (K10.out) hB8 (.int .i64 xas) (.slice xaua xaq.length xauc) (.bool xal) (.int .i64 xat) (.int .i64 xaa) (.bool xan) (.int .i64 xad) (.slice xata xac.length xatc) (.int .i64 xann) (.bool xaoo))
   have QZ:=hZq (QX.out.nostr (noTx_str (l:=[.int .i64 0,.slice none 0 0,.bool false,.int .i64 0,.int .i64 0,.bool false,.int .i64 0,.slice none 0 0,.int .i64 0,.bool false]) nz8.out rfl) (fun k hk => stN10_far z10 B8 (.int .i64 xas) (.slice xaua xaq.length xauc) (.bool xal) (.int .i64 xat) (.int .i64 xaa) (.bool xan) (.int .i64 xad) (.slice xata xac.length xatc) (.int .i64 xann) (.bool xaoo) hk) (stN10_size z10 B8 (.int .i64 xas) (.slice xaua xaq.length xauc) (.bool xal) (.int .i64 xat) (.int .i64 xaa) (.bool xan) (.int .i64 xad) (.slice xata xac.length xatc) (.int .i64 xann) (.bool xaoo)))
   have TZ:=hZq (TX.out.nostr (noTx_str (l:=[.int .i64 0,.slice none 0 0,.bool false,.int .i64 0,.int .i64 0,.bool false,.int .i64 0,.slice none 0 0,.int .i64 0,.bool false]) nz8.out rfl) (fun k hk => stN10_far z10 B8 (.int .i64 xas) (.slice xaua xaq.length xauc) (.bool xal) (.int .i64 xat) (.int .i64 xaa) (.bool xan) (.int .i64 xad) (.slice xata xac.length xatc) (.int .i64 xann) (.bool xaoo) hk) (stN10_size z10 B8 (.int .i64 xas) (.slice xaua xaq.length xauc) (.bool xal) (.int .i64 xat) (.int .i64 xaa) (.bool xan) (.int .i64 xad) (.slice xata xac.length xatc) (.int .i64 xann) (.bool xaoo)))
   refine hK.out _ _ ?_ (fun hHeld2 => ?_)
   ·exact heldB_up KE.out D0.out
   clear hK Kx hHeld
   have hHeld:=hHeld2
   clear hHeld2
   refine wpAnyH_done (by kernel_rfl) ?_ _
   go_wp2_with fail
   go_meet
   exact⟨B8,xaua,xauc,xata,xatc,rfl,YB,QZ,TZ,KE⟩
 case rest =>
  obtain⟨Bxa,xaua,xauc,xata,xatc,rfl,LN,QN,TN,KB⟩:=hcut
  obtain⟨w9,hw9⟩ : ∃ X,X=wc:=⟨_,rfl⟩
  subst hw9
  replace GB:=hZq (upQ GB.out KB.out)
  replace XB:=hZq (upQ XB.out KB.out)
  replace VB:=hZq (upQ VB.out KB.out)
  replace HV:=hZq (HV.out.later KB.out)
  replace HC:=hZq (HC.out.later KB.out)
  replace HT:=hZq (HT.out.later KB.out)
  replace HB:=hZq (below2Z HB.out KB.out)
  clear KB
  have Sxa:=LN
  have Qxa:=QN
  have Txa:=TN
  clear LN QN TN
  have XBk5:=ckZ XB.out 5 _ rfl
  have VBk0:=ckZ VB.out 0 _ rfl
  go_wp2_with (with_reducible refine ldG aggSide _ rfl rfl (Bxa) 0 rfl Sxa.out [.int .i64 xas,.slice xaua xaq.length xauc,.bool xal,.int .i64 xat,.int .i64 xaa,.bool xan,.int .i64 xad,.slice xata xac.length xatc,.int .i64 xann,.bool xaoo] rfl rfl ?_)
  clear XBk5 VBk0
  refine (rpsync_any Qxa.out Txa.out HT.out HS1).mono ?_
  rintro e w10 ⟨rfl,b10⟩
  replace GB:=hZq (upQ GB.out b10)
  replace XB:=hZq (upQ XB.out b10)
  replace VB:=hZq (upQ VB.out b10)
  replace Sxa:=hZq (upQ Sxa.out b10)
  replace HV:=hZq (HV.out.later b10)
  replace HC:=hZq (HC.out.later b10)
  replace HT:=hZq (HT.out.later b10)
  replace Qxa:=hZq (Chgs.later Qxa.out b10)
  replace Txa:=hZq (Tab.later Txa.out b10)
  replace HB:=hZq (below2Z HB.out b10)
  clear b10
  have VBk0:=ckZ VB.out 0 _ rfl
  have VBk1:=ckZ VB.out 1 _ rfl
  go_wp2_with (first | (with_reducible refine ldA aggCfg _ rfl rfl (w.heap.size) 0 rfl GB.out [.int .i64 ca,.int .i64 cb,.int .i64 cd,.int .i64 ce] rfl rfl ?_) | (with_reducible refine ldA aggSide _ rfl rfl (Bxa) 0 rfl Sxa.out [.int .i64 xas,.slice xaua xaq.length xauc,.bool xal,.int .i64 xat,.int .i64 xaa,.bool xan,.int .i64 xad,.slice xata xac.length xatc,.int .i64 xann,.bool xaoo] rfl rfl ?_))
  clear VBk0 VBk1
  refine (rpround Qxa.out Txa.out HT.out HSA.out.sc HSA.out.ql HSA.out.st HSA.out.tl s5 ca cb cd ce xas xat xaa xad (now+2) xann xal xan xaoo HBS).mono ?_
  rintro e w11 ⟨u,tv,rfl,hU,hT,b11⟩
  replace GB:=hZq (upQ GB.out b11)
  replace XB:=hZq (upQ XB.out b11)
  replace VB:=hZq (upQ VB.out b11)
  replace Sxa:=hZq (upQ Sxa.out b11)
  replace HV:=hZq (HV.out.later b11)
  replace HC:=hZq (HC.out.later b11)
  replace HT:=hZq (HT.out.later b11)
  replace Qxa:=hZq (Chgs.later Qxa.out b11)
  replace Txa:=hZq (Tab.later Txa.out b11)
  replace HB:=hZq (below2Z HB.out b11)
  obtain⟨xbua,xbuc,rfl,-⟩:=hU.open'
  obtain⟨xbta,xbtc,rfl,-⟩:=hT.open'
  have Qxb:=hZq hU
  have Txb:=hZq hT
  clear hU hT
  clear b11
  have hsGB:=(Array.getElem?_eq_some_iff.1 GB.out).1
  have hsXB:=(Array.getElem?_eq_some_iff.1 XB.out).1
  have hsVB:=(Array.getElem?_eq_some_iff.1 VB.out).1
  have hsSxa:=(Array.getElem?_eq_some_iff.1 Sxa.out).1
  have b12:=bl_newZ w11 (.cells #[.int .i64 0,.slice none 0 0,.bool false,.int .i64 0,.int .i64 0,.bool false,.int .i64 0,.slice none 0 0,.int .i64 0,.bool false] 41)
  have SB_:=newQ w11 (.cells #[.int .i64 0,.slice none 0 0,.bool false,.int .i64 0,.int .i64 0,.bool false,.int .i64 0,.slice none 0 0,.int .i64 0,.bool false] 41)
  have hSB_:w.heap.size≤w11.heap.size:=HB.out.size
  replace GB:=hZq (upQ GB.out b12)
  replace XB:=hZq (upQ XB.out b12)
  replace VB:=hZq (upQ VB.out b12)
  replace Sxa:=hZq (upQ Sxa.out b12)
  replace HV:=hZq (HV.out.later b12)
  replace HC:=hZq (HC.out.later b12)
  replace HT:=hZq (HT.out.later b12)
  replace Qxa:=hZq (Chgs.later Qxa.out b12)
  replace Txa:=hZq (Tab.later Txa.out b12)
  replace Qxb:=hZq (Chgs.later Qxb.out b12)
  replace Txb:=hZq (Tab.later Txb.out b12)
  replace HB:=hZq (below2Z HB.out b12)
  clear b12
  replace SB_:=hZq SB_
  go_wp2_with (with_reducible refine stA aggSide _ _ rfl rfl (w11.heap.size) 0 rfl SB_.out [.int .i64 xbs,.slice xbua xbq.length xbuc,.bool xbl,.int .i64 xbt,.int .i64 xba,.bool xbn,.int .i64 xbd,.slice xbta xbc.length xbtc,.int .i64 xbnn,.bool xboo] rfl rfl (Nat.le_of_ble_eq_true rfl) rfl [.int .i64 xbs,.slice xbua xbq.length xbuc,.bool xbl,.int .i64 xbt,.int .i64 xba,.bool xbn,.int .i64 xbd,.slice xbta xbc.length xbtc,.int .i64 xbnn,.bool xboo] rfl ?_)
  intro w13 hst
  have HBz:=hZq (hst.bel HB.out (show w.heap.size≤w11.heap.size by omega))
  have GBz:=hZq (hst.keep GB.out (show ¬ w.heap.size=w11.heap.size by omega))
  have XBz:=hZq (hst.keep XB.out (show ¬ w.heap.size+1=w11.heap.size by omega))
  have VBz:=hZq (hst.keep VB.out (show ¬ w.heap.size+1+1=w11.heap.size by omega))
  have Sxaz:=hZq (hst.keep Sxa.out (show ¬ Bxa=w11.heap.size by omega))
  have SB_z:=hZq hst.at'
  have HVz:=hZq (Chgs.sta HV.out hst SB_.out rfl)
  have HCz:=hZq (Tab.sta HC.out hst SB_.out rfl)
  have HTz:=hZq (Tab.sta HT.out hst SB_.out rfl)
  have Qxaz:=hZq (Chgs.sta Qxa.out hst SB_.out rfl)
  have Txaz:=hZq (Tab.sta Txa.out hst SB_.out rfl)
  have Qxbz:=hZq (Chgs.sta Qxb.out hst SB_.out rfl)
  have Txbz:=hZq (Tab.sta Txb.out hst SB_.out rfl)
  clear hst HB GB XB VB Sxa SB_ HV HC HT Qxa Txa Qxb Txb
  have HB:=HBz
  have GB:=GBz
  have XB:=XBz
  have VB:=VBz
  have Sxa:=Sxaz
  have SB_:=SB_z
  have HV:=HVz
  have HC:=HCz
  have HT:=HTz
  have Qxa:=Qxaz
  have Txa:=Txaz
  have Qxb:=Qxbz
  have Txb:=Txbz
  clear HBz GBz XBz VBz Sxaz SB_z HVz HCz HTz Qxaz Txaz Qxbz Txbz
  generalize w11.heap.size=BSB_ at SB_ hSB_ hsGB hsXB hsVB hsSxa ⊢
  have dSB_GB:¬ w.heap.size=BSB_:=by omega
  have dSB_XB:¬ w.heap.size+1=BSB_:=by omega
  have dSB_VB:¬ w.heap.size+1+1=BSB_:=by omega
  have dSB_Sxa:¬ Bxa=BSB_:=by omega
  have eSB_GB:¬ BSB_=w.heap.size:=by omega
  have eSB_XB:¬ BSB_=w.heap.size+1:=by omega
  have eSB_VB:¬ BSB_=w.heap.size+1+1:=by omega
  have eSB_Sxa:¬ BSB_=Bxa:=by omega
  clear hsGB hsXB hsVB hsSxa
  have VBk0:=ckZ VB.out 0 _ rfl
  go_wp2_with (with_reducible refine ldA aggSide _ rfl rfl (BSB_) 0 rfl SB_.out [.int .i64 xbs,.slice xbua xbq.length xbuc,.bool xbl,.int .i64 xbt,.int .i64 xba,.bool xbn,.int .i64 xbd,.slice xbta xbc.length xbtc,.int .i64 xbnn,.bool xboo] rfl rfl ?_)
  clear VBk0
  refine (rpsync_any Qxb.out Txb.out HT.out HS2).mono ?_
  rintro e w14 ⟨rfl,b14⟩
  replace GB:=hZq (upQ GB.out b14)
  replace XB:=hZq (upQ XB.out b14)
  replace VB:=hZq (upQ VB.out b14)
  replace Sxa:=hZq (upQ Sxa.out b14)
  replace SB_:=hZq (upQ SB_.out b14)
  replace HV:=hZq (HV.out.later b14)
  replace HC:=hZq (HC.out.later b14)
  replace HT:=hZq (HT.out.later b14)
  replace Qxa:=hZq (Chgs.later Qxa.out b14)
  replace Txa:=hZq (Tab.later Txa.out b14)
  replace Qxb:=hZq (Chgs.later Qxb.out b14)
  replace Txb:=hZq (Tab.later Txb.out b14)
  replace HB:=hZq (below2Z HB.out b14)
  clear b14
  go_wp2_with (with_reducible refine ldG aggLink _ rfl rfl (BSB_) 0 rfl SB_.out [.int .i64 xbs,.slice xbua xbq.length xbuc,.bool xbl,.int .i64 xbt,.int .i64 xba,.bool xbn,.int .i64 xbd] rfl rfl ?_)
  refine (lquiet_any Qxb.out xbl xbn xbs xbt xba xbd HQ).mono ?_
  rintro e w15 ⟨rfl,b15⟩
  replace GB:=hZq (upQ GB.out b15)
  replace XB:=hZq (upQ XB.out b15)
  replace VB:=hZq (upQ VB.out b15)
  replace Sxa:=hZq (upQ Sxa.out b15)
  replace SB_:=hZq (upQ SB_.out b15)
  replace HV:=hZq (HV.out.later b15)
  replace HC:=hZq (HC.out.later b15)
  replace HT:=hZq (HT.out.later b15)
  replace Qxa:=hZq (Chgs.later Qxa.out b15)
  replace Txa:=hZq (Tab.later Txa.out b15)
  replace Qxb:=hZq (Chgs.later Qxb.out b15)
  replace Txb:=hZq (Tab.later Txb.out b15)
  replace HB:=hZq (below2Z HB.out b15)
  clear b15
  go_wp2_with (with_reducible refine ldG aggCli _ rfl rfl (BSB_) 7 rfl SB_.out [.slice xbta xbc.length xbtc,.int .i64 xbnn,.bool xboo] rfl rfl ?_)
  refine (clmay_eq Txb.out HSB.out.st xbnn xboo HCB).mono ?_
  rintro e w16 ⟨rfl,b16⟩
  replace GB:=hZq (upQ GB.out b16)
  replace XB:=hZq (upQ XB.out b16)
  replace VB:=hZq (upQ VB.out b16)
  replace Sxa:=hZq (upQ Sxa.out b16)
  replace SB_:=hZq (upQ SB_.out b16)
  replace HV:=hZq (HV.out.later b16)
  replace HC:=hZq (HC.out.later b16)
  replace HT:=hZq (HT.out.later b16)
  replace Qxa:=hZq (Chgs.later Qxa.out b16)
  replace Txa:=hZq (Tab.later Txa.out b16)
  replace Qxb:=hZq (Chgs.later Qxb.out b16)
  replace Txb:=hZq (Tab.later Txb.out b16)
  replace HB:=hZq (below2Z HB.out b16)
  clear b16
  go_wp2_with (with_reducible refine ldG aggCfg _ rfl rfl (w.heap.size) 0 rfl GB.out [.int .i64 ca,.int .i64 cb,.int .i64 cd,.int .i64 ce] rfl rfl ?_)
  refine (rpmay_any ca cb cd ce HPM _).mono ?_
  rintro e w17 ⟨rfl,b17⟩
  replace GB:=hZq (upQ GB.out b17)
  replace XB:=hZq (upQ XB.out b17)
  replace VB:=hZq (upQ VB.out b17)
  replace Sxa:=hZq (upQ Sxa.out b17)
  replace SB_:=hZq (upQ SB_.out b17)
  replace HV:=hZq (HV.out.later b17)
  replace HC:=hZq (HC.out.later b17)
  replace HT:=hZq (HT.out.later b17)
  replace Qxa:=hZq (Chgs.later Qxa.out b17)
  replace Txa:=hZq (Tab.later Txa.out b17)
  replace Qxb:=hZq (Chgs.later Qxb.out b17)
  replace Txb:=hZq (Tab.later Txb.out b17)
  replace HB:=hZq (below2Z HB.out b17)
  clear b17
  go_wp2_with fail
  refine (live20 _).mono ?_
  rintro e w18 ⟨rfl,b18⟩
  replace HB:=hZq (below2Z HB.out b18)
  clear b18
  go_wp2_with fail
  go_ret
  exact⟨rfl,HB.out⟩

theorem rso_g {w:World} {v cv vv:Value} {ql:List Chg} {ct view:List Row} (hv:Chgs w v ql) (hc:Tab w cv ct) (ht:Tab w vv view) (ca cb cd ce seq tok at' dg nn now rounds:Int) (la:Bool) (HF:Hid ((fewC ql 30 && fewT ct)=true)) (HG:Hid (fewT view=true)) (HL:Hid (lnMay ⟨ca,cb,cd,ce⟩ ⟨seq,⟨ql,la⟩,⟨tok,at'⟩,false,dg⟩=true)) (HC0:Hid (clMay ⟨ct,nn,true⟩=true)) (HD:Hid (diMay view=true)) (hb:¬ now < 0∧¬ 549755813888 < now∧¬ now < at'∧¬ seq < nn∧¬ 549755813888 < seq) {xas xat xaa xad xann:Int} {xaq:List Chg} {xal xan xaoo:Bool} {xac:List Row} {xbs xbt xba xbd xbnn:Int} {xbq:List Chg} {xbl xbn xboo:Bool} {xbc:List Row} (HA:Hid (rpRound ⟨ca,cb,cd,ce⟩ view (now+1) (⟨seq,⟨ql,la⟩,⟨tok,at'⟩,false,dg⟩,(⟨ct,nn,true⟩ : Cli))=(⟨xas,⟨xaq,xal⟩,⟨xat,xaa⟩,xan,xad⟩,(⟨xac,xann,xaoo⟩ : Cli)))) (HBS:Hid (rpRound ⟨ca,cb,cd,ce⟩ view (now+2) (⟨xas,⟨xaq,xal⟩,⟨xat,xaa⟩,xan,xad⟩,(⟨xac,xann,xaoo⟩ : Cli))=(⟨xbs,⟨xbq,xbl⟩,⟨xbt,xba⟩,xbn,xbd⟩,(⟨xbc,xbnn,xboo⟩ : Cli)))) (HS2:Hid (rpSynced (⟨xbs,⟨xbq,xbl⟩,⟨xbt,xba⟩,xbn,xbd⟩,(⟨xbc,xbnn,xboo⟩ : Cli)) view=true)) (HQ:Hid (lnQuiet ⟨xbs,⟨xbq,xbl⟩,⟨xbt,xba⟩,xbn,xbd⟩=true)) (HCB:Hid (clMay ⟨xbc,xbnn,xboo⟩=true)) (HPM:Hid (pcMay ⟨ca,cb,cd,ce⟩=true)) :
  Calls Tryz.prog 7 #[.agg #[.int .i64 ca,.int .i64 cb,.int .i64 cd,.int .i64 ce],.agg #[.int .i64 seq,v,.bool la,.int .i64 tok,.int .i64 at',.bool false,.int .i64 dg,cv,.int .i64 nn,.bool true],.agg #[vv,.int .i64 now,.int .i64 rounds]] w fun e w' => e=.returned (.bool true)∧Below w.heap.size w w':=by
 obtain⟨s1,s2,s3,s4⟩:=few_short HF.out
 have s5:Short view:=fun r hr => by have:=((fewT_yes HG.out).2 r hr); omega
 obtain⟨k0,k1,k2,k3,k4⟩:=hb
 have w1:IntKind.i64.wrap (now+1)=now+1:=IntWalk.i64_in _ (by omega)
 have w2:IntKind.i64.wrap (now+2)=now+2:=IntWalk.i64_in _ (by omega)
 have HSA:=hZq (round_fit (cfg:=⟨ca,cb,cd,ce⟩) (view:=view) (now:=now+1) (RpFit.mk (s:=(⟨seq,⟨ql,la⟩,⟨tok,at'⟩,false,dg⟩,(⟨ct,nn,true⟩ : Cli))) s1 s2 s3 s4))
 rw [HA.out] at HSA
 have HSB:=hZq (round_fit (cfg:=⟨ca,cb,cd,ce⟩) (view:=view) (now:=now+2) HSA.out)
 rw [HBS.out] at HSB
 have gd5123:decide (now < 0)=false:=by rw [decide_eq_false_iff_not]; omega
 have gd2275:decide (549755813888 < now)=false:=by rw [decide_eq_false_iff_not]; omega
 have gd4636:decide (now < at')=false:=by rw [decide_eq_false_iff_not]; omega
 have gd3181:decide (seq < nn)=false:=by rw [decide_eq_false_iff_not]; omega
 have gd822:decide (549755813888 < seq)=false:=by rw [decide_eq_false_iff_not]; omega
 have HC1:=HC0
 clear HC0
 obtain⟨qa,qc,rfl,-⟩:=hv.open'
 obtain⟨ta,tc,rfl,-⟩:=hc.open'
 obtain⟨va,vc,rfl,-⟩:=ht.open'
 obtain⟨GB,XB,VB,HB⟩:=ent3 w (.cells #[.int .i64 ca,.int .i64 cb,.int .i64 cd,.int .i64 ce] 23) (.cells #[.int .i64 seq,.slice qa ql.length qc,.bool la,.int .i64 tok,.int .i64 at',.bool false,.int .i64 dg,.slice ta ct.length tc,.int .i64 nn,.bool true] 35) (.cells #[.slice va view.length vc,.int .i64 now,.int .i64 rounds] 37)
 have HV:=hZq ((hv).later HB.out)
 have HC:=hZq ((hc).later HB.out)
 have HT:=hZq ((ht).later HB.out)
 clear hv hc ht
 go_enter Tryz.func7,Tryz.ntmps7
 have VBk0:=ckZ VB.out 0 _ rfl
 have VBk1:=ckZ VB.out 1 _ rfl
 have VBk2:=ckZ VB.out 2 _ rfl
 have XBk0:=ckZ XB.out 0 _ rfl
 have XBk4:=ckZ XB.out 4 _ rfl
 have XBk5:=ckZ XB.out 5 _ rfl
 have XBk6:=ckZ XB.out 6 _ rfl
 have XBk8:=ckZ XB.out 8 _ rfl
 have XBk9:=ckZ XB.out 9 _ rfl
 have GBk3:=ckZ GB.out 3 _ rfl
 go_wp2_with (with_reducible refine ldA aggRSide _ rfl rfl (w.heap.size+1) 0 rfl XB.out [.int .i64 seq,.slice qa ql.length qc,.bool la,.int .i64 tok,.int .i64 at',.bool false,.int .i64 dg,.slice ta ct.length tc,.int .i64 nn,.bool true] rfl rfl ?_)
 clear VBk0 VBk1 VBk2 XBk0 XBk4 XBk5 XBk6 XBk8 XBk9 GBk3
 refine (rrpfew HV.out HC.out seq tok at' dg nn la false true HF).mono ?_
 rintro e w4 ⟨rfl,b4⟩
 replace GB:=hZq (upQ GB.out b4)
 replace XB:=hZq (upQ XB.out b4)
 replace VB:=hZq (upQ VB.out b4)
 replace HV:=hZq (HV.out.later b4)
 replace HC:=hZq (HC.out.later b4)
 replace HT:=hZq (HT.out.later b4)
 replace HB:=hZq (below2Z HB.out b4)
 clear b4
 have VBk0:=ckZ VB.out 0 _ rfl
 have VBk1:=ckZ VB.out 1 _ rfl
 have VBk2:=ckZ VB.out 2 _ rfl
 have XBk0:=ckZ XB.out 0 _ rfl
 have XBk4:=ckZ XB.out 4 _ rfl
 have XBk5:=ckZ XB.out 5 _ rfl
 have XBk6:=ckZ XB.out 6 _ rfl
 have XBk8:=ckZ XB.out 8 _ rfl
 have XBk9:=ckZ XB.out 9 _ rfl
 have GBk3:=ckZ GB.out 3 _ rfl
 go_wp2_with fail
 clear VBk0 VBk1 VBk2 XBk0 XBk4 XBk5 XBk6 XBk8 XBk9 GBk3
 refine (fewt_eqL HT.out HG).mono ?_
 rintro e w5 ⟨rfl,b5⟩
 replace GB:=hZq (upQ GB.out b5)
 replace XB:=hZq (upQ XB.out b5)
 replace VB:=hZq (upQ VB.out b5)
 replace HV:=hZq (HV.out.later b5)
 replace HC:=hZq (HC.out.later b5)
 replace HT:=hZq (HT.out.later b5)
 replace HB:=hZq (below2Z HB.out b5)
 clear b5
 have VBk0:=ckZ VB.out 0 _ rfl
 have VBk1:=ckZ VB.out 1 _ rfl
 have VBk2:=ckZ VB.out 2 _ rfl
 have XBk0:=ckZ XB.out 0 _ rfl
 have XBk4:=ckZ XB.out 4 _ rfl
 have XBk5:=ckZ XB.out 5 _ rfl
 have XBk6:=ckZ XB.out 6 _ rfl
 have XBk8:=ckZ XB.out 8 _ rfl
 have XBk9:=ckZ XB.out 9 _ rfl
 have GBk3:=ckZ GB.out 3 _ rfl
 go_wp2_with (first | (with_reducible refine ldG aggCfg _ rfl rfl (w.heap.size) 0 rfl GB.out [.int .i64 ca,.int .i64 cb,.int .i64 cd,.int .i64 ce] rfl rfl ?_) | (with_reducible refine ldG aggLink _ rfl rfl (w.heap.size+1) 0 rfl XB.out [.int .i64 seq,.slice qa ql.length qc,.bool la,.int .i64 tok,.int .i64 at',.bool false,.int .i64 dg] rfl rfl ?_))
 clear VBk0 VBk1 VBk2 XBk0 XBk4 XBk5 XBk6 XBk8 XBk9 GBk3
 refine (rlmay_any HV.out s1 s2 la false seq tok at' dg ca cb cd ce HL).mono ?_
 rintro e w6 ⟨rfl,b6⟩
 replace GB:=hZq (upQ GB.out b6)
 replace XB:=hZq (upQ XB.out b6)
 replace VB:=hZq (upQ VB.out b6)
 replace HV:=hZq (HV.out.later b6)
 replace HC:=hZq (HC.out.later b6)
 replace HT:=hZq (HT.out.later b6)
 replace HB:=hZq (below2Z HB.out b6)
 clear b6
 have VBk0:=ckZ VB.out 0 _ rfl
 have VBk1:=ckZ VB.out 1 _ rfl
 have VBk2:=ckZ VB.out 2 _ rfl
 have XBk0:=ckZ XB.out 0 _ rfl
 have XBk4:=ckZ XB.out 4 _ rfl
 have XBk5:=ckZ XB.out 5 _ rfl
 have XBk6:=ckZ XB.out 6 _ rfl
 have XBk8:=ckZ XB.out 8 _ rfl
 have XBk9:=ckZ XB.out 9 _ rfl
 have GBk3:=ckZ GB.out 3 _ rfl
 go_wp2_with (with_reducible refine ldG aggCli _ rfl rfl (w.heap.size+1) 7 rfl XB.out [.slice ta ct.length tc,.int .i64 nn,.bool true] rfl rfl ?_)
 clear VBk0 VBk1 VBk2 XBk0 XBk4 XBk5 XBk6 XBk8 XBk9 GBk3
 refine (rclmay_eq HC.out s3 nn true HC1).mono ?_
 rintro e w7 ⟨rfl,b7⟩
 replace GB:=hZq (upQ GB.out b7)
 replace XB:=hZq (upQ XB.out b7)
 replace VB:=hZq (upQ VB.out b7)
 replace HV:=hZq (HV.out.later b7)
 replace HC:=hZq (HC.out.later b7)
 replace HT:=hZq (HT.out.later b7)
 replace HB:=hZq (below2Z HB.out b7)
 clear b7
 have VBk0:=ckZ VB.out 0 _ rfl
 have VBk1:=ckZ VB.out 1 _ rfl
 have VBk2:=ckZ VB.out 2 _ rfl
 have XBk0:=ckZ XB.out 0 _ rfl
 have XBk4:=ckZ XB.out 4 _ rfl
 have XBk5:=ckZ XB.out 5 _ rfl
 have XBk6:=ckZ XB.out 6 _ rfl
 have XBk8:=ckZ XB.out 8 _ rfl
 have XBk9:=ckZ XB.out 9 _ rfl
 have GBk3:=ckZ GB.out 3 _ rfl
 go_wp2_with fail
 clear VBk0 VBk1 VBk2 XBk0 XBk4 XBk5 XBk6 XBk8 XBk9 GBk3
 refine (rdimay_eq HT.out s5 HD).mono ?_
 rintro e w8 ⟨rfl,b8⟩
 replace GB:=hZq (upQ GB.out b8)
 replace XB:=hZq (upQ XB.out b8)
 replace VB:=hZq (upQ VB.out b8)
 replace HV:=hZq (HV.out.later b8)
 replace HC:=hZq (HC.out.later b8)
 replace HT:=hZq (HT.out.later b8)
 replace HB:=hZq (below2Z HB.out b8)
 clear b8
 have VBk0:=ckZ VB.out 0 _ rfl
 have VBk1:=ckZ VB.out 1 _ rfl
 have VBk2:=ckZ VB.out 2 _ rfl
 have XBk0:=ckZ XB.out 0 _ rfl
 have XBk4:=ckZ XB.out 4 _ rfl
 have XBk5:=ckZ XB.out 5 _ rfl
 have XBk6:=ckZ XB.out 6 _ rfl
 have XBk8:=ckZ XB.out 8 _ rfl
 have XBk9:=ckZ XB.out 9 _ rfl
 have GBk3:=ckZ GB.out 3 _ rfl
 go_upto_region 5 with fail
 clear VBk0 VBk1 VBk2 XBk0 XBk4 XBk5 XBk6 XBk8 XBk9 GBk3
 go_upto_region 5 with fail
 go_cut [7] from 83 to 91 (fun pp wx => ∃ B xaua xauc xata xatc,pp=.pointer (some ⟨B,0,none⟩)∧Hid (wx.heap[B]?=some (.cells #[.int .i64 xas,.slice xaua xaq.length xauc,.bool xal,.int .i64 xat,.int .i64 xaa,.bool xan,.int .i64 xad,.slice xata xac.length xatc,.int .i64 xann,.bool xaoo] 41 (0,0)))∧Hid (Chgs wx (.slice xaua xaq.length xauc) xaq)∧Hid (Tab wx (.slice xata xac.length xatc) xac)∧Hid (Below w8.heap.size w8 wx))
 case first =>
  obtain⟨BS,hBS⟩ : ∃ BS:List (Nat × List Value),BS=[(w.heap.size,[.int .i64 ca,.int .i64 cb,.int .i64 cd,.int .i64 ce]),(w.heap.size+1,[.int .i64 seq,.slice qa ql.length qc,.bool la,.int .i64 tok,.int .i64 at',.bool false,.int .i64 dg,.slice ta ct.length tc,.int .i64 nn,.bool true]),(w.heap.size+1+1,[.slice va view.length vc,.int .i64 now,.int .i64 rounds])]:=⟨_,rfl⟩
  have D0:=hZq (show heldB w8 BS from by rw [hBS]; exact heldB_cons (cellsAt_block GB.out) (heldB_cons (cellsAt_block XB.out) (heldB_cons (cellsAt_block VB.out) (heldB_nil _))))
  have hL:=heldB_at (b:=w.heap.size) (vs:=[.int .i64 ca,.int .i64 cb,.int .i64 cd,.int .i64 ce]) (bs:=BS) (by rw [hBS]; simp)
  have hq0:=hL 0 _ rfl
  have hq1:=hL 1 _ rfl
  have hq2:=hL 2 _ rfl
  have hq3:=hL 3 _ rfl
  clear hL
  have hL:=heldB_at (b:=w.heap.size+1) (vs:=[.int .i64 seq,.slice qa ql.length qc,.bool la,.int .i64 tok,.int .i64 at',.bool false,.int .i64 dg,.slice ta ct.length tc,.int .i64 nn,.bool true]) (bs:=BS) (by rw [hBS]; simp)
  have hq4:=hL 0 _ rfl
  have hq5:=hL 1 _ rfl
  have hq6:=hL 2 _ rfl
  have hq7:=hL 3 _ rfl
  have hq8:=hL 4 _ rfl
  have hq9:=hL 5 _ rfl
  have hq10:=hL 6 _ rfl
  have hq11:=hL 7 _ rfl
  have hq12:=hL 8 _ rfl
  have hq13:=hL 9 _ rfl
  clear hL
  have hL:=heldB_at (b:=w.heap.size+1+1) (vs:=[.slice va view.length vc,.int .i64 now,.int .i64 rounds]) (bs:=BS) (by rw [hBS]; simp)
  have hq14:=hL 0 _ rfl
  have hq15:=hL 1 _ rfl
  have hq16:=hL 2 _ rfl
  clear hL
  clear hBS
  have K0:Hid (Below w8.heap.size w8 w8.drew):=hZq (Below.refl _ _).drew
  refine wp_region_held_drew (S:=(fun X => heldB X BS)) (by kernel_rfl) ?_ (fun hHeld => ?_)
  ·exact heldB_up K0.out D0.out
  generalize w8.drew=z0 at K0 hHeld ⊢
  refine tkZ 0 ?_
  refine tkZ 1 ?_
  refine tkZ 3 ?_
  refine tkZ 4 ?_
  refine tkZ 5 ?_
  refine tkZ 6 ?_
  refine tkZ 7 ?_
  refine wpAnyH_ready (rs:=[2,9]) (by as_aux_lemma => kernel_rfl) (by simp) ?_
  refine AllReadyH.cons rfl (fun Kx hK => ?_) (AllReadyH.cons rfl (fun Kx hK => ?_) (AllReadyH.nil))
  ·go_simp
   refine (rpmine (HV.out.later (K0.out)) (HC.out.later (K0.out)) seq tok at' dg nn la false true).mono ?_
   rintro e z1 ⟨rfl,bz1⟩
   have K1:=hZq (below2Z K0.out bz1)
   have D1:=hZq (heldB_up K1.out D0.out)
   clear bz1
   go_wp2_with fail
   refine hK.out _ _ ?_ (fun hHeld2 => ?_)
   ·exact D1.out
   clear hK Kx hHeld
   have hHeld:=hHeld2
   clear hHeld2
   try simp only [Act.put,List.setIfInBounds_toArray,List.set_cons_zero,List.set_cons_succ]
   refine wpAnyH_ready (rs:=[8,9]) (by as_aux_lemma => kernel_rfl) (by simp) ?_
   refine AllReadyH.cons rfl (fun Kx hK => ?_) (AllReadyH.cons rfl (fun Kx hK => ?_) (AllReadyH.nil))
   ·go_simp
    refine (rpround (HV.out.later (K1.out)) (HC.out.later (K1.out)) (HT.out.later (K1.out)) s1 s2 s3 s4 s5 ca cb cd ce seq tok at' dg (now+1) nn la false true HA).mono ?_
    rintro e z2 ⟨u,tv,rfl,hU,hT,bz2⟩
    have K2:=hZq (below2Z K1.out bz2)
    have D2:=hZq (heldB_up K2.out D0.out)
    obtain⟨xaua,xauc,rfl,-⟩:=hU.open'
    obtain⟨xata,xatc,rfl,-⟩:=hT.open'
    have QX:=hZq hU
    have TX:=hZq hT
    clear hU hT
    clear bz2
    go_wp2_with fail
    refine hK.out _ _ ?_ (fun hHeld2 => ?_)
    ·exact D2.out
    clear hK Kx hHeld
    have hHeld:=hHeld2
    clear hHeld2
    try simp only [Act.put,List.setIfInBounds_toArray,List.set_cons_zero,List.set_cons_succ]
    refine wpAnyH_ready (rs:=[9]) (by as_aux_lemma => kernel_rfl) (by simp) ?_
    refine AllReadyH.cons rfl (fun Kx hK => ?_) AllReadyH.nil
    go_simp
    refine hK.out _ _ ?_ (fun hHeld2 => ?_)
    ·exact heldB_up (below2Z K2.out (bl_newZ _ _)) D0.out
    clear hK Kx hHeld
    have hHeld:=hHeld2
    clear hHeld2
    try simp only [Act.put,List.setIfInBounds_toArray,List.set_cons_zero,List.set_cons_succ]
    have bz3:=bl_newZ z2 (.cells #[.int .i64 0,.slice none 0 0,.bool false,.int .i64 0,.int .i64 0,.bool false,.int .i64 0,.slice none 0 0,.int .i64 0,.bool false] 41)
    have K3:=hZq (below2Z K2.out bz3)
    have D3:=hZq (heldB_up K3.out D0.out)
    have nz3:=hZq ((MapKept.heap_alloc z2 (.cells #[.int .i64 0,.slice none 0 0,.bool false,.int .i64 0,.int .i64 0,.bool false,.int .i64 0,.slice none 0 0,.int .i64 0,.bool false] 41)).1)
    have hB3:w8.heap.size≤z2.heap.size:=(K2.out).size
    replace QX:=hZq (Chgs.later (QX.out) bz3)
    replace TX:=hZq (Tab.later (TX.out) bz3)
    clear bz3
    generalize z2.alloc (.cells #[.int .i64 0,.slice none 0 0,.bool false,.int .i64 0,.int .i64 0,.bool false,.int .i64 0,.slice none 0 0,.int .i64 0,.bool false] 41)=z3 at K3 D3 nz3 QX TX hHeld ⊢
    generalize z2.heap.size=B3 at nz3 hB3  ⊢
    obtain⟨⟨r0,r1,r2,r3,r4,r5,r6,r7,r8,r9⟩,⟨g0,g1,g2,g3,g4,g5,g6,g7,g8,g9⟩⟩:=blk10 nz3.out
    refine wpAnyH_ready (rs:=[10]) (by as_aux_lemma => kernel_rfl) (by simp) ?_
    refine AllReadyH.cons rfl (fun Kx hK => ?_) AllReadyH.nil
    go_simp
    clear r0 r1 r2 r3 r4 r5 r6 r7 r8 r9 g0 g1 g2 g3 g4 g5 g6 g7 g8 g9
    have YB:=hZq (stN10_heap nz3.out (.int .i64 xas) (.slice xaua xaq.length xauc) (.bool xal) (.int .i64 xat) (.int .i64 xaa) (.bool xan) (.int .i64 xad) (.slice xata xac.length xatc) (.int .i64 xann) (.bool xaoo))
    have KE:=hZq (stN10_below (K3.out) hB3 (.int .i64 xas) (.slice xaua xaq.length xauc) (.bool xal) (.int .i64 xat) (.int .i64 xaa) (.bool xan) (.int .i64 xad) (.slice xata xac.length xatc) (.int .i64 xann) (.bool xaoo))
    have QZ:=hZq (QX.out.nostr (noTx_str (l:=[.int .i64 0,.slice none 0 0,.bool false,.int .i64 0,.int .i64 0,.bool false,.int .i64 0,.slice none 0 0,.int .i64 0,.bool false]) nz3.out rfl) (fun k hk => stN10_far z3 B3 (.int .i64 xas) (.slice xaua xaq.length xauc) (.bool xal) (.int .i64 xat) (.int .i64 xaa) (.bool xan) (.int .i64 xad) (.slice xata xac.length xatc) (.int .i64 xann) (.bool xaoo) hk) (stN10_size z3 B3 (.int .i64 xas) (.slice xaua xaq.length xauc) (.bool xal) (.int .i64 xat) (.int .i64 xaa) (.bool xan) (.int .i64 xad) (.slice xata xac.length xatc) (.int .i64 xann) (.bool xaoo)))
    have TZ:=hZq (TX.out.nostr (noTx_str (l:=[.int .i64 0,.slice none 0 0,.bool false,.int .i64 0,.int .i64 0,.bool false,.int .i64 0,.slice none 0 0,.int .i64 0,.bool false]) nz3.out rfl) (fun k hk => stN10_far z3 B3 (.int .i64 xas) (.slice xaua xaq.length xauc) (.bool xal) (.int .i64 xat) (.int .i64 xaa) (.bool xan) (.int .i64 xad) (.slice xata xac.length xatc) (.int .i64 xann) (.bool xaoo) hk) (stN10_size z3 B3 (.int .i64 xas) (.slice xaua xaq.length xauc) (.bool xal) (.int .i64 xat) (.int .i64 xaa) (.bool xan) (.int .i64 xad) (.slice xata xac.length xatc) (.int .i64 xann) (.bool xaoo)))
    refine hK.out _ _ ?_ (fun hHeld2 => ?_)
    ·exact heldB_up KE.out D0.out
    clear hK Kx hHeld
    have hHeld:=hHeld2
    clear hHeld2
    refine wpAnyH_done (by kernel_rfl) ?_ _
    go_wp2_with fail
    go_meet
    exact⟨B3,xaua,xauc,xata,xatc,rfl,YB,QZ,TZ,KE⟩
   ·go_simp
    refine hK.out _ _ ?_ (fun hHeld2 => ?_)
    ·exact heldB_up (below2Z K1.out (bl_newZ _ _)) D0.out
    clear hK Kx hHeld
    have hHeld:=hHeld2
    clear hHeld2
    try simp only [Act.put,List.setIfInBounds_toArray,List.set_cons_zero,List.set_cons_succ]
    have bz5:=bl_newZ z1 (.cells #[.int .i64 0,.slice none 0 0,.bool false,.int .i64 0,.int .i64 0,.bool false,.int .i64 0,.slice none 0 0,.int .i64 0,.bool false] 41)
    have K5:=hZq (below2Z K1.out bz5)
    have D5:=hZq (heldB_up K5.out D0.out)
    have nz5:=hZq ((MapKept.heap_alloc z1 (.cells #[.int .i64 0,.slice none 0 0,.bool false,.int .i64 0,.int .i64 0,.bool false,.int .i64 0,.slice none 0 0,.int .i64 0,.bool false] 41)).1)
    have hB5:w8.heap.size≤z1.heap.size:=(K1.out).size
    clear bz5
    generalize z1.alloc (.cells #[.int .i64 0,.slice none 0 0,.bool false,.int .i64 0,.int .i64 0,.bool false,.int .i64 0,.slice none 0 0,.int .i64 0,.bool false] 41)=z5 at K5 D5 nz5 hHeld ⊢
    generalize z1.heap.size=B5 at nz5 hB5  ⊢
    refine wpAnyH_ready (rs:=[8]) (by as_aux_lemma => kernel_rfl) (by simp) ?_
    refine AllReadyH.cons rfl (fun Kx hK => ?_) AllReadyH.nil
    go_simp
    refine (rpround (HV.out.later (K5.out)) (HC.out.later (K5.out)) (HT.out.later (K5.out)) s1 s2 s3 s4 s5 ca cb cd ce seq tok at' dg (now+1) nn la false true HA).mono ?_
    rintro e z6 ⟨u,tv,rfl,hU,hT,bz6⟩
    have K6:=hZq (below2Z K5.out bz6)
    have D6:=hZq (heldB_up K6.out D0.out)
    replace nz5:=hZq (((bz6).block _ (Array.getElem?_eq_some_iff.1 (nz5.out)).1).trans (nz5.out))
    obtain⟨xaua,xauc,rfl,-⟩:=hU.open'
    obtain⟨xata,xatc,rfl,-⟩:=hT.open'
    have QX:=hZq hU
    have TX:=hZq hT
    clear hU hT
    clear bz6
    go_wp2_with fail
    refine hK.out _ _ ?_ (fun hHeld2 => ?_)
    ·exact D6.out
    clear hK Kx hHeld
    have hHeld:=hHeld2
    clear hHeld2
    try simp only [Act.put,List.setIfInBounds_toArray,List.set_cons_zero,List.set_cons_succ]
    obtain⟨⟨r0,r1,r2,r3,r4,r5,r6,r7,r8,r9⟩,⟨g0,g1,g2,g3,g4,g5,g6,g7,g8,g9⟩⟩:=blk10 nz5.out
    refine wpAnyH_ready (rs:=[10]) (by as_aux_lemma => kernel_rfl) (by simp) ?_
    refine AllReadyH.cons rfl (fun Kx hK => ?_) AllReadyH.nil
    go_simp
    clear r0 r1 r2 r3 r4 r5 r6 r7 r8 r9 g0 g1 g2 g3 g4 g5 g6 g7 g8 g9
    have YB:=hZq (stN10_heap nz5.out (.int .i64 xas) (.slice xaua xaq.length xauc) (.bool xal) (.int .i64 xat) (.int .i64 xaa) (.bool xan) (.int .i64 xad) (.slice xata xac.length xatc) (.int .i64 xann) (.bool xaoo))
    have KE:=hZq (stN10_below (K6.out) hB5 (.int .i64 xas) (.slice xaua xaq.length xauc) (.bool xal) (.int .i64 xat) (.int .i64 xaa) (.bool xan) (.int .i64 xad) (.slice xata xac.length xatc) (.int .i64 xann) (.bool xaoo))
    have QZ:=hZq (QX.out.nostr (noTx_str (l:=[.int .i64 0,.slice none 0 0,.bool false,.int .i64 0,.int .i64 0,.bool false,.int .i64 0,.slice none 0 0,.int .i64 0,.bool false]) nz5.out rfl) (fun k hk => stN10_far z6 B5 (.int .i64 xas) (.slice xaua xaq.length xauc) (.bool xal) (.int .i64 xat) (.int .i64 xaa) (.bool xan) (.int .i64 xad) (.slice xata xac.length xatc) (.int .i64 xann) (.bool xaoo) hk) (stN10_size z6 B5 (.int .i64 xas) (.slice xaua xaq.length xauc) (.bool xal) (.int .i64 xat) (.int .i64 xaa) (.bool xan) (.int .i64 xad) (.slice xata xac.length xatc) (.int .i64 xann) (.bool xaoo)))
    have TZ:=hZq (TX.out.nostr (noTx_str (l:=[.int .i64 0,.slice none 0 0,.bool false,.int .i64 0,.int .i64 0,.bool false,.int .i64 0,.slice none 0 0,.int .i64 0,.bool false]) nz5.out rfl) (fun k hk => stN10_far z6 B5 (.int .i64 xas) (.slice xaua xaq.length xauc) (.bool xal) (.int .i64 xat) (.int .i64 xaa) (.bool xan) (.int .i64 xad) (.slice xata xac.length xatc) (.int .i64 xann) (.bool xaoo) hk) (stN10_size z6 B5 (.int .i64 xas) (.slice xaua xaq.length xauc) (.bool xal) (.int .i64 xat) (.int .i64 xaa) (.bool xan) (.int .i64 xad) (.slice xata xac.length xatc) (.int .i64 xann) (.bool xaoo)))
    refine hK.out _ _ ?_ (fun hHeld2 => ?_)
    ·exact heldB_up KE.out D0.out
    clear hK Kx hHeld
    have hHeld:=hHeld2
    clear hHeld2
    refine wpAnyH_done (by kernel_rfl) ?_ _
    go_wp2_with fail
    go_meet
    exact⟨B5,xaua,xauc,xata,xatc,rfl,YB,QZ,TZ,KE⟩
  ·go_simp
   refine hK.out _ _ ?_ (fun hHeld2 => ?_)
   ·exact heldB_up (below2Z K0.out (bl_newZ _ _)) D0.out
   clear hK Kx hHeld
   have hHeld:=hHeld2
   clear hHeld2
   try simp only [Act.put,List.setIfInBounds_toArray,List.set_cons_zero,List.set_cons_succ]
   have bz8:=bl_newZ z0 (.cells #[.int .i64 0,.slice none 0 0,.bool false,.int .i64 0,.int .i64 0,.bool false,.int .i64 0,.slice none 0 0,.int .i64 0,.bool false] 41)
   have K8:=hZq (below2Z K0.out bz8)
   have D8:=hZq (heldB_up K8.out D0.out)
   have nz8:=hZq ((MapKept.heap_alloc z0 (.cells #[.int .i64 0,.slice none 0 0,.bool false,.int .i64 0,.int .i64 0,.bool false,.int .i64 0,.slice none 0 0,.int .i64 0,.bool false] 41)).1)
   have hB8:w8.heap.size≤z0.heap.size:=(K0.out).size
   clear bz8
   generalize z0.alloc (.cells #[.int .i64 0,.slice none 0 0,.bool false,.int .i64 0,.int .i64 0,.bool false,.int .i64 0,.slice none 0 0,.int .i64 0,.bool false] 41)=z8 at K8 D8 nz8 hHeld ⊢
   generalize z0.heap.size=B8 at nz8 hB8  ⊢
   refine wpAnyH_ready (rs:=[2]) (by as_aux_lemma => kernel_rfl) (by simp) ?_
   refine AllReadyH.cons rfl (fun Kx hK => ?_) AllReadyH.nil
   go_simp
   refine (rpmine (HV.out.later (K8.out)) (HC.out.later (K8.out)) seq tok at' dg nn la false true).mono ?_
   rintro e z9 ⟨rfl,bz9⟩
   have K9:=hZq (below2Z K8.out bz9)
   have D9:=hZq (heldB_up K9.out D0.out)
   replace nz8:=hZq (((bz9).block _ (Array.getElem?_eq_some_iff.1 (nz8.out)).1).trans (nz8.out))
   clear bz9
   go_wp2_with fail
   refine hK.out _ _ ?_ (fun hHeld2 => ?_)
   ·exact D9.out
   clear hK Kx hHeld
   have hHeld:=hHeld2
   clear hHeld2
   try simp only [Act.put,List.setIfInBounds_toArray,List.set_cons_zero,List.set_cons_succ]
   refine wpAnyH_ready (rs:=[8]) (by as_aux_lemma => kernel_rfl) (by simp) ?_
   refine AllReadyH.cons rfl (fun Kx hK => ?_) AllReadyH.nil
   go_simp
   refine (rpround (HV.out.later (K9.out)) (HC.out.later (K9.out)) (HT.out.later (K9.out)) s1 s2 s3 s4 s5 ca cb cd ce seq tok at' dg (now+1) nn la false true HA).mono ?_
   rintro e z10 ⟨u,tv,rfl,hU,hT,bz10⟩
   have K10:=hZq (below2Z K9.out bz10)
   have D10:=hZq (heldB_up K10.out D0.out)
   replace nz8:=hZq (((bz10).block _ (Array.getElem?_eq_some_iff.1 (nz8.out)).1).trans (nz8.out))
   obtain⟨xaua,xauc,rfl,-⟩:=hU.open'
   obtain⟨xata,xatc,rfl,-⟩:=hT.open'
   have QX:=hZq hU
   have TX:=hZq hT
   clear hU hT
   clear bz10
   go_wp2_with fail
   refine hK.out _ _ ?_ (fun hHeld2 => ?_)
   ·exact D10.out
   clear hK Kx hHeld
   have hHeld:=hHeld2
   clear hHeld2
   try simp only [Act.put,List.setIfInBounds_toArray,List.set_cons_zero,List.set_cons_succ]
   obtain⟨⟨r0,r1,r2,r3,r4,r5,r6,r7,r8,r9⟩,⟨g0,g1,g2,g3,g4,g5,g6,g7,g8,g9⟩⟩:=blk10 nz8.out
   refine wpAnyH_ready (rs:=[10]) (by as_aux_lemma => kernel_rfl) (by simp) ?_
   refine AllReadyH.cons rfl (fun Kx hK => ?_) AllReadyH.nil
   go_simp
   clear r0 r1 r2 r3 r4 r5 r6 r7 r8 r9 g0 g1 g2 g3 g4 g5 g6 g7 g8 g9
   have YB:=hZq (stN10_heap nz8.out (.int .i64 xas) (.slice xaua xaq.length xauc) (.bool xal) (.int .i64 xat) (.int .i64 xaa) (.bool xan) (.int .i64 xad) (.slice xata xac.length xatc) (.int .i64 xann) (.bool xaoo))
   have KE:=hZq (stN10_below (K10.out) hB8 (.int .i64 xas) (.slice xaua xaq.length xauc) (.bool xal) (.int .i64 xat) (.int .i64 xaa) (.bool xan) (.int .i64 xad) (.slice xata xac.length xatc) (.int .i64 xann) (.bool xaoo))
   have QZ:=hZq (QX.out.nostr (noTx_str (l:=[.int .i64 0,.slice none 0 0,.bool false,.int .i64 0,.int .i64 0,.bool false,.int .i64 0,.slice none 0 0,.int .i64 0,.bool false]) nz8.out rfl) (fun k hk => stN10_far z10 B8 (.int .i64 xas) (.slice xaua xaq.length xauc) (.bool xal) (.int .i64 xat) (.int .i64 xaa) (.bool xan) (.int .i64 xad) (.slice xata xac.length xatc) (.int .i64 xann) (.bool xaoo) hk) (stN10_size z10 B8 (.int .i64 xas) (.slice xaua xaq.length xauc) (.bool xal) (.int .i64 xat) (.int .i64 xaa) (.bool xan) (.int .i64 xad) (.slice xata xac.length xatc) (.int .i64 xann) (.bool xaoo)))
   have TZ:=hZq (TX.out.nostr (noTx_str (l:=[.int .i64 0,.slice none 0 0,.bool false,.int .i64 0,.int .i64 0,.bool false,.int .i64 0,.slice none 0 0,.int .i64 0,.bool false]) nz8.out rfl) (fun k hk => stN10_far z10 B8 (.int .i64 xas) (.slice xaua xaq.length xauc) (.bool xal) (.int .i64 xat) (.int .i64 xaa) (.bool xan) (.int .i64 xad) (.slice xata xac.length xatc) (.int .i64 xann) (.bool xaoo) hk) (stN10_size z10 B8 (.int .i64 xas) (.slice xaua xaq.length xauc) (.bool xal) (.int .i64 xat) (.int .i64 xaa) (.bool xan) (.int .i64 xad) (.slice xata xac.length xatc) (.int .i64 xann) (.bool xaoo)))
   refine hK.out _ _ ?_ (fun hHeld2 => ?_)
   ·exact heldB_up KE.out D0.out
   clear hK Kx hHeld
   have hHeld:=hHeld2
   clear hHeld2
   refine wpAnyH_done (by kernel_rfl) ?_ _
   go_wp2_with fail
   go_meet
   exact⟨B8,xaua,xauc,xata,xatc,rfl,YB,QZ,TZ,KE⟩
 case rest =>
  obtain⟨Bxa,xaua,xauc,xata,xatc,rfl,LN,QN,TN,KB⟩:=hcut
  obtain⟨w9,hw9⟩ : ∃ X,X=wc:=⟨_,rfl⟩
  subst hw9
  replace GB:=hZq (upQ GB.out KB.out)
  replace XB:=hZq (upQ XB.out KB.out)
  replace VB:=hZq (upQ VB.out KB.out)
  replace HV:=hZq (HV.out.later KB.out)
  replace HC:=hZq (HC.out.later KB.out)
  replace HT:=hZq (HT.out.later KB.out)
  replace HB:=hZq (below2Z HB.out KB.out)
  clear KB
  have Sxa:=LN
  have Qxa:=QN
  have Txa:=TN
  clear LN QN TN
  have XBk5:=ckZ XB.out 5 _ rfl
  have VBk0:=ckZ VB.out 0 _ rfl
  have VBk1:=ckZ VB.out 1 _ rfl
  go_wp2_with (first | (with_reducible refine ldA aggCfg _ rfl rfl (w.heap.size) 0 rfl GB.out [.int .i64 ca,.int .i64 cb,.int .i64 cd,.int .i64 ce] rfl rfl ?_) | (with_reducible refine ldA aggSide _ rfl rfl (Bxa) 0 rfl Sxa.out [.int .i64 xas,.slice xaua xaq.length xauc,.bool xal,.int .i64 xat,.int .i64 xaa,.bool xan,.int .i64 xad,.slice xata xac.length xatc,.int .i64 xann,.bool xaoo] rfl rfl ?_))
  clear XBk5 VBk0 VBk1
  refine (rpround Qxa.out Txa.out HT.out HSA.out.sc HSA.out.ql HSA.out.st HSA.out.tl s5 ca cb cd ce xas xat xaa xad (now+2) xann xal xan xaoo HBS).mono ?_
  rintro e w10 ⟨u,tv,rfl,hU,hT,b10⟩
  replace GB:=hZq (upQ GB.out b10)
  replace XB:=hZq (upQ XB.out b10)
  replace VB:=hZq (upQ VB.out b10)
  replace Sxa:=hZq (upQ Sxa.out b10)
  replace HV:=hZq (HV.out.later b10)
  replace HC:=hZq (HC.out.later b10)
  replace HT:=hZq (HT.out.later b10)
  replace Qxa:=hZq (Chgs.later Qxa.out b10)
  replace Txa:=hZq (Tab.later Txa.out b10)
  replace HB:=hZq (below2Z HB.out b10)
  obtain⟨xbua,xbuc,rfl,-⟩:=hU.open'
  obtain⟨xbta,xbtc,rfl,-⟩:=hT.open'
  have Qxb:=hZq hU
  have Txb:=hZq hT
  clear hU hT
  clear b10
  have hsGB:=(Array.getElem?_eq_some_iff.1 GB.out).1
  have hsXB:=(Array.getElem?_eq_some_iff.1 XB.out).1
  have hsVB:=(Array.getElem?_eq_some_iff.1 VB.out).1
  have hsSxa:=(Array.getElem?_eq_some_iff.1 Sxa.out).1
  have b11:=bl_newZ w10 (.cells #[.int .i64 0,.slice none 0 0,.bool false,.int .i64 0,.int .i64 0,.bool false,.int .i64 0,.slice none 0 0,.int .i64 0,.bool false] 41)
  have SB_:=newQ w10 (.cells #[.int .i64 0,.slice none 0 0,.bool false,.int .i64 0,.int .i64 0,.bool false,.int .i64 0,.slice none 0 0,.int .i64 0,.bool false] 41)
  have hSB_:w.heap.size≤w10.heap.size:=HB.out.size
  replace GB:=hZq (upQ GB.out b11)
  replace XB:=hZq (upQ XB.out b11)
  replace VB:=hZq (upQ VB.out b11)
  replace Sxa:=hZq (upQ Sxa.out b11)
  replace HV:=hZq (HV.out.later b11)
  replace HC:=hZq (HC.out.later b11)
  replace HT:=hZq (HT.out.later b11)
  replace Qxa:=hZq (Chgs.later Qxa.out b11)
  replace Txa:=hZq (Tab.later Txa.out b11)
  replace Qxb:=hZq (Chgs.later Qxb.out b11)
  replace Txb:=hZq (Tab.later Txb.out b11)
  replace HB:=hZq (below2Z HB.out b11)
  clear b11
  replace SB_:=hZq SB_
  go_wp2_with (with_reducible refine stA aggSide _ _ rfl rfl (w10.heap.size) 0 rfl SB_.out [.int .i64 xbs,.slice xbua xbq.length xbuc,.bool xbl,.int .i64 xbt,.int .i64 xba,.bool xbn,.int .i64 xbd,.slice xbta xbc.length xbtc,.int .i64 xbnn,.bool xboo] rfl rfl (Nat.le_of_ble_eq_true rfl) rfl [.int .i64 xbs,.slice xbua xbq.length xbuc,.bool xbl,.int .i64 xbt,.int .i64 xba,.bool xbn,.int .i64 xbd,.slice xbta xbc.length xbtc,.int .i64 xbnn,.bool xboo] rfl ?_)
  intro w12 hst
  have HBz:=hZq (hst.bel HB.out (show w.heap.size≤w10.heap.size by omega))
  have GBz:=hZq (hst.keep GB.out (show ¬ w.heap.size=w10.heap.size by omega))
  have XBz:=hZq (hst.keep XB.out (show ¬ w.heap.size+1=w10.heap.size by omega))
  have VBz:=hZq (hst.keep VB.out (show ¬ w.heap.size+1+1=w10.heap.size by omega))
  have Sxaz:=hZq (hst.keep Sxa.out (show ¬ Bxa=w10.heap.size by omega))
  have SB_z:=hZq hst.at'
  have HVz:=hZq (Chgs.sta HV.out hst SB_.out rfl)
  have HCz:=hZq (Tab.sta HC.out hst SB_.out rfl)
  have HTz:=hZq (Tab.sta HT.out hst SB_.out rfl)
  have Qxaz:=hZq (Chgs.sta Qxa.out hst SB_.out rfl)
  have Txaz:=hZq (Tab.sta Txa.out hst SB_.out rfl)
  have Qxbz:=hZq (Chgs.sta Qxb.out hst SB_.out rfl)
  have Txbz:=hZq (Tab.sta Txb.out hst SB_.out rfl)
  clear hst HB GB XB VB Sxa SB_ HV HC HT Qxa Txa Qxb Txb
  have HB:=HBz
  have GB:=GBz
  have XB:=XBz
  have VB:=VBz
  have Sxa:=Sxaz
  have SB_:=SB_z
  have HV:=HVz
  have HC:=HCz
  have HT:=HTz
  have Qxa:=Qxaz
  have Txa:=Txaz
  have Qxb:=Qxbz
  have Txb:=Txbz
  clear HBz GBz XBz VBz Sxaz SB_z HVz HCz HTz Qxaz Txaz Qxbz Txbz
  generalize w10.heap.size=BSB_ at SB_ hSB_ hsGB hsXB hsVB hsSxa ⊢
  have dSB_GB:¬ w.heap.size=BSB_:=by omega
  have dSB_XB:¬ w.heap.size+1=BSB_:=by omega
  have dSB_VB:¬ w.heap.size+1+1=BSB_:=by omega
  have dSB_Sxa:¬ Bxa=BSB_:=by omega
  have eSB_GB:¬ BSB_=w.heap.size:=by omega
  have eSB_XB:¬ BSB_=w.heap.size+1:=by omega
  have eSB_VB:¬ BSB_=w.heap.size+1+1:=by omega
  have eSB_Sxa:¬ BSB_=Bxa:=by omega
  clear hsGB hsXB hsVB hsSxa
  have VBk0:=ckZ VB.out 0 _ rfl
  go_wp2_with (with_reducible refine ldA aggSide _ rfl rfl (BSB_) 0 rfl SB_.out [.int .i64 xbs,.slice xbua xbq.length xbuc,.bool xbl,.int .i64 xbt,.int .i64 xba,.bool xbn,.int .i64 xbd,.slice xbta xbc.length xbtc,.int .i64 xbnn,.bool xboo] rfl rfl ?_)
  clear VBk0
  refine (rpsync_any Qxb.out Txb.out HT.out HS2).mono ?_
  rintro e w13 ⟨rfl,b13⟩
  replace GB:=hZq (upQ GB.out b13)
  replace XB:=hZq (upQ XB.out b13)
  replace VB:=hZq (upQ VB.out b13)
  replace Sxa:=hZq (upQ Sxa.out b13)
  replace SB_:=hZq (upQ SB_.out b13)
  replace HV:=hZq (HV.out.later b13)
  replace HC:=hZq (HC.out.later b13)
  replace HT:=hZq (HT.out.later b13)
  replace Qxa:=hZq (Chgs.later Qxa.out b13)
  replace Txa:=hZq (Tab.later Txa.out b13)
  replace Qxb:=hZq (Chgs.later Qxb.out b13)
  replace Txb:=hZq (Tab.later Txb.out b13)
  replace HB:=hZq (below2Z HB.out b13)
  clear b13
  go_wp2_with (with_reducible refine ldG aggLink _ rfl rfl (BSB_) 0 rfl SB_.out [.int .i64 xbs,.slice xbua xbq.length xbuc,.bool xbl,.int .i64 xbt,.int .i64 xba,.bool xbn,.int .i64 xbd] rfl rfl ?_)
  refine (lquiet_any Qxb.out xbl xbn xbs xbt xba xbd HQ).mono ?_
  rintro e w14 ⟨rfl,b14⟩
  replace GB:=hZq (upQ GB.out b14)
  replace XB:=hZq (upQ XB.out b14)
  replace VB:=hZq (upQ VB.out b14)
  replace Sxa:=hZq (upQ Sxa.out b14)
  replace SB_:=hZq (upQ SB_.out b14)
  replace HV:=hZq (HV.out.later b14)
  replace HC:=hZq (HC.out.later b14)
  replace HT:=hZq (HT.out.later b14)
  replace Qxa:=hZq (Chgs.later Qxa.out b14)
  replace Txa:=hZq (Tab.later Txa.out b14)
  replace Qxb:=hZq (Chgs.later Qxb.out b14)
  replace Txb:=hZq (Tab.later Txb.out b14)
  replace HB:=hZq (below2Z HB.out b14)
  clear b14
  go_wp2_with (with_reducible refine ldG aggCli _ rfl rfl (BSB_) 7 rfl SB_.out [.slice xbta xbc.length xbtc,.int .i64 xbnn,.bool xboo] rfl rfl ?_)
  refine (clmay_eq Txb.out HSB.out.st xbnn xboo HCB).mono ?_
  rintro e w15 ⟨rfl,b15⟩
  replace GB:=hZq (upQ GB.out b15)
  replace XB:=hZq (upQ XB.out b15)
  replace VB:=hZq (upQ VB.out b15)
  replace Sxa:=hZq (upQ Sxa.out b15)
  replace SB_:=hZq (upQ SB_.out b15)
  replace HV:=hZq (HV.out.later b15)
  replace HC:=hZq (HC.out.later b15)
  replace HT:=hZq (HT.out.later b15)
  replace Qxa:=hZq (Chgs.later Qxa.out b15)
  replace Txa:=hZq (Tab.later Txa.out b15)
  replace Qxb:=hZq (Chgs.later Qxb.out b15)
  replace Txb:=hZq (Tab.later Txb.out b15)
  replace HB:=hZq (below2Z HB.out b15)
  clear b15
  go_wp2_with (with_reducible refine ldG aggCfg _ rfl rfl (w.heap.size) 0 rfl GB.out [.int .i64 ca,.int .i64 cb,.int .i64 cd,.int .i64 ce] rfl rfl ?_)
  refine (rpmay_any ca cb cd ce HPM _).mono ?_
  rintro e w16 ⟨rfl,b16⟩
  replace GB:=hZq (upQ GB.out b16)
  replace XB:=hZq (upQ XB.out b16)
  replace VB:=hZq (upQ VB.out b16)
  replace Sxa:=hZq (upQ Sxa.out b16)
  replace SB_:=hZq (upQ SB_.out b16)
  replace HV:=hZq (HV.out.later b16)
  replace HC:=hZq (HC.out.later b16)
  replace HT:=hZq (HT.out.later b16)
  replace Qxa:=hZq (Chgs.later Qxa.out b16)
  replace Txa:=hZq (Tab.later Txa.out b16)
  replace Qxb:=hZq (Chgs.later Qxb.out b16)
  replace Txb:=hZq (Tab.later Txb.out b16)
  replace HB:=hZq (below2Z HB.out b16)
  clear b16
  go_wp2_with fail
  refine (live20 _).mono ?_
  rintro e w17 ⟨rfl,b17⟩
  replace HB:=hZq (below2Z HB.out b17)
  clear b17
  go_wp2_with fail
  go_ret
  exact⟨rfl,HB.out⟩

theorem walkRepairSoon {w:World} (c:Cfg) (_:CfgFit c) (seq:Int) (v:Value) (la:Bool) (tok at':Int) (sn:Bool) (dg:Int) (cv:Value) (nn:Int) (oo:Bool) (_:(Lit.int .i64 seq).wf=true) (hq:∃ t:List Chg,Chgs w v t) (_:(Lit.int .i64 tok).wf=true) (_:(Lit.int .i64 at').wf=true) (_:(Lit.int .i64 dg).wf=true) (hct:∃ t:List Row,Tab w cv t) (_:(Lit.int .i64 nn).wf=true) (vv:Value) (now rounds:Int) (hvt:∃ t:List Row,Tab w vv t) (_:(Lit.int .i64 now).wf=true) (_:(Lit.int .i64 rounds).wf=true) :
  Calls Tryz.prog 7 #[.agg #[.int .i64 c.room,.int .i64 c.burst,.int .i64 c.rate,.int .i64 c.per],.agg #[.int .i64 seq,v,.bool la,.int .i64 tok,.int .i64 at',.bool sn,.int .i64 dg,cv,.int .i64 nn,.bool oo],.agg #[vv,.int .i64 now,.int .i64 rounds]] w fun e w' => e=.returned (.bool true)∧Below w.heap.size w w':=by
 obtain⟨ql,hv⟩:=hq
 obtain⟨ct,hc⟩:=hct
 obtain⟨view,ht⟩:=hvt
 cases hf:fewC ql 30 && fewT ct with
 | false => exact rso_a hv hc ht c.room c.burst c.rate c.per seq tok at' dg nn now rounds la sn oo (hZq hf)
 | true =>
  cases hg:fewT view with
  | false => exact rso_b hv hc ht c.room c.burst c.rate c.per seq tok at' dg nn now rounds la sn oo (hZq hf) (hZq hg)
  | true =>
   by_cases hb:lnMay ⟨c.room,c.burst,c.rate,c.per⟩ ⟨seq,⟨ql,la⟩,⟨tok,at'⟩,sn,dg⟩=true∧clMay ⟨ct,nn,oo⟩=true∧diMay view=true∧¬ now < 0∧¬ 549755813888 < now∧¬ now < at'∧¬ seq < nn∧¬ 549755813888 < seq
   ·obtain⟨hL,hC,hD,hb⟩:=hb
    cases sn with
    | true =>
     cases oo with
     | true =>
      obtain⟨h1,h2,h3⟩:=rp_two (cfg:=⟨c.room,c.burst,c.rate,c.per⟩) (s:=(⟨seq,⟨ql,la⟩,⟨tok,at'⟩,true,dg⟩,(⟨ct,nn,true⟩ : Cli))) (t:=now) hL hC hD (by omega) (by omega) (by show at'≤now; omega) (by show nn≤seq; omega) (by show seq≤_; omega) (by first | exact .inl rfl | exact .inr rfl)
      obtain⟨⟨⟨xas,⟨xaq,xal⟩,⟨xat,xaa⟩,xan,xad⟩,⟨xac,xann,xaoo⟩⟩,hx⟩ : ∃ x,rpRound ⟨c.room,c.burst,c.rate,c.per⟩ view (now+1) (⟨seq,⟨ql,la⟩,⟨tok,at'⟩,true,dg⟩,(⟨ct,nn,true⟩ : Cli))=x:=⟨_,rfl⟩
      rw [hx] at h1 h2 h3
      obtain⟨⟨⟨xbs,⟨xbq,xbl⟩,⟨xbt,xba⟩,xbn,xbd⟩,⟨xbc,xbnn,xboo⟩⟩,hy⟩ : ∃ x,rpRound ⟨c.room,c.burst,c.rate,c.per⟩ view (now+2) (⟨xas,⟨xaq,xal⟩,⟨xat,xaa⟩,xan,xad⟩,(⟨xac,xann,xaoo⟩ : Cli))=x:=⟨_,rfl⟩
      rw [hy] at h2 h3
      have h4:lnQuiet ⟨xbs,⟨xbq,xbl⟩,⟨xbt,xba⟩,xbn,xbd⟩=true:=by
       unfold rpSynced at h2
       simp only [Bool.and_eq_true] at h2
       exact h2.1
      exact rso_e hv hc ht c.room c.burst c.rate c.per seq tok at' dg nn now rounds la (hZq hf) (hZq hg) (hZq hL) (hZq hC) (hZq hD) hb (hZq hx) (hZq hy) (hZq (h1 rfl)) (hZq h2) (hZq h4) (hZq h3) (hZq (pcOne_iff.1 (lnMay_iff.1 hL).1).1)
     | false =>
      obtain⟨h1,h2,h3⟩:=rp_two (cfg:=⟨c.room,c.burst,c.rate,c.per⟩) (s:=(⟨seq,⟨ql,la⟩,⟨tok,at'⟩,true,dg⟩,(⟨ct,nn,false⟩ : Cli))) (t:=now) hL hC hD (by omega) (by omega) (by show at'≤now; omega) (by show nn≤seq; omega) (by show seq≤_; omega) (by first | exact .inl rfl | exact .inr rfl)
      obtain⟨⟨⟨xas,⟨xaq,xal⟩,⟨xat,xaa⟩,xan,xad⟩,⟨xac,xann,xaoo⟩⟩,hx⟩ : ∃ x,rpRound ⟨c.room,c.burst,c.rate,c.per⟩ view (now+1) (⟨seq,⟨ql,la⟩,⟨tok,at'⟩,true,dg⟩,(⟨ct,nn,false⟩ : Cli))=x:=⟨_,rfl⟩
      rw [hx] at h1 h2 h3
      obtain⟨⟨⟨xbs,⟨xbq,xbl⟩,⟨xbt,xba⟩,xbn,xbd⟩,⟨xbc,xbnn,xboo⟩⟩,hy⟩ : ∃ x,rpRound ⟨c.room,c.burst,c.rate,c.per⟩ view (now+2) (⟨xas,⟨xaq,xal⟩,⟨xat,xaa⟩,xan,xad⟩,(⟨xac,xann,xaoo⟩ : Cli))=x:=⟨_,rfl⟩
      rw [hy] at h2 h3
      have h4:lnQuiet ⟨xbs,⟨xbq,xbl⟩,⟨xbt,xba⟩,xbn,xbd⟩=true:=by
       unfold rpSynced at h2
       simp only [Bool.and_eq_true] at h2
       exact h2.1
      exact rso_f hv hc ht c.room c.burst c.rate c.per seq tok at' dg nn now rounds la (hZq hf) (hZq hg) (hZq hL) (hZq hC) (hZq hD) hb (hZq hx) (hZq hy) (hZq (h1 rfl)) (hZq h2) (hZq h4) (hZq h3) (hZq (pcOne_iff.1 (lnMay_iff.1 hL).1).1)
    | false =>
     cases oo with
     | true =>
      obtain⟨h1,h2,h3⟩:=rp_two (cfg:=⟨c.room,c.burst,c.rate,c.per⟩) (s:=(⟨seq,⟨ql,la⟩,⟨tok,at'⟩,false,dg⟩,(⟨ct,nn,true⟩ : Cli))) (t:=now) hL hC hD (by omega) (by omega) (by show at'≤now; omega) (by show nn≤seq; omega) (by show seq≤_; omega) (by first | exact .inl rfl | exact .inr rfl)
      obtain⟨⟨⟨xas,⟨xaq,xal⟩,⟨xat,xaa⟩,xan,xad⟩,⟨xac,xann,xaoo⟩⟩,hx⟩ : ∃ x,rpRound ⟨c.room,c.burst,c.rate,c.per⟩ view (now+1) (⟨seq,⟨ql,la⟩,⟨tok,at'⟩,false,dg⟩,(⟨ct,nn,true⟩ : Cli))=x:=⟨_,rfl⟩
      rw [hx] at h1 h2 h3
      obtain⟨⟨⟨xbs,⟨xbq,xbl⟩,⟨xbt,xba⟩,xbn,xbd⟩,⟨xbc,xbnn,xboo⟩⟩,hy⟩ : ∃ x,rpRound ⟨c.room,c.burst,c.rate,c.per⟩ view (now+2) (⟨xas,⟨xaq,xal⟩,⟨xat,xaa⟩,xan,xad⟩,(⟨xac,xann,xaoo⟩ : Cli))=x:=⟨_,rfl⟩
      rw [hy] at h2 h3
      have h4:lnQuiet ⟨xbs,⟨xbq,xbl⟩,⟨xbt,xba⟩,xbn,xbd⟩=true:=by
       unfold rpSynced at h2
       simp only [Bool.and_eq_true] at h2
       exact h2.1
      exact rso_g hv hc ht c.room c.burst c.rate c.per seq tok at' dg nn now rounds la (hZq hf) (hZq hg) (hZq hL) (hZq hC) (hZq hD) hb (hZq hx) (hZq hy) (hZq h2) (hZq h4) (hZq h3) (hZq (pcOne_iff.1 (lnMay_iff.1 hL).1).1)
     | false => exact rso_d hv hc ht c.room c.burst c.rate c.per seq tok at' dg nn now rounds la (hZq hf) (hZq hg) (hZq hL) (hZq hC) (hZq hD) hb
   ·exact rso_c hv hc ht c.room c.burst c.rate c.per seq tok at' dg nn now rounds la sn oo (hZq hf) (hZq hg) hb

end Go.Proofs.YtmpigdokghngiaaGreat
end

section
namespace Go.Proofs.YtmpigdokghngiaaGreat.repairSoon
open Go.ChangeShapes Go.WideShapes Go.ChangeAt Go.RowKit
open Go.ChangeMaps (open_string shut_string)
set_option linter.unusedVariables false

theorem own:ownKnob Tryz.prog.godebug=none:=by kernel_rfl
theorem laidOut:laidOutB Tryz.prog=true:=by kernel_rfl

theorem lifted (os:Os) (started:os.Started) (H:Type) (enc:TypeId × Value→H) :
  ReturnsInHanded {} Tryz.checked os 7 .any (Rows.repairSoonSpec.pre6 enc Tryz.prog Tryz.f7 Rows.repairSoonRow.domain false) (Rows.repairSoonSpec.post enc Tryz.prog Tryz.f7 false true false false):=by
 refine returnsInHanded_of_change (C:=Tryz.checked) own started (by kernel_rfl) Tryz.func7
  (ChangeSpec.witness6 (enc:=enc) (C:=Tryz.checked) false ⟨#[],#[.agg #[.int .i64 0,.int .i64 0,.int .i64 0,.int .i64 0],.agg #[.int .i64 0,.slice none 0 0,.bool false,.int .i64 0,.int .i64 0,.bool false,.int .i64 0,.slice none 0 0,.int .i64 0,.bool false],.agg #[.slice none 0 0,.int .i64 0,.int .i64 0]],[]⟩ 8 (by kernel_rfl) (by kernel_rfl) (by kernel_rfl) (by kernel_rfl)) ?_
 intro W base args ds gs before hval0 hW hcnd _
 have hval:∀ (j:Nat) t v,Tryz.f7.params[j]?=some t→args[j]?=some v→Value.okWide Tryz.prog W .any base t v:=hval0
 have hW':=hW
 obtain⟨p,q,hA0,hV,rfl,hfz,hnd⟩:=hW
 have hA:DataW.TrodAll enc Tryz.prog W 0 (fun _ => true) true Tryz.f7.params.toList args.toList ds p:=hA0
 rw [Tryz.params7] at hA hval
 obtain⟨v0,vs0,d0,ds0,p0,q0,hargs,rfl,rfl,h0,r0⟩:=trodAll_cons hA
 obtain⟨v1,vs1,d1,ds1,p1,q1,rfl,rfl,rfl,h1,r1⟩:=trodAll_cons r0
 obtain⟨v2,vs2,d2,ds2,p2,q2,rfl,rfl,rfl,h2,r2⟩:=trodAll_cons r1
 obtain⟨rfl,rfl,rfl⟩:=trodAll_nil r2
 obtain rfl:args=#[v0,v1,v2]:=by cases args; simp_all
 obtain⟨rfl,rfl⟩:=trodVars_none hV
 have k0:=h0
 have lt0:∀ x ∈ p0,x.block < W.heap.size:=by obtain⟨m,hm⟩:=k0; exact DataW.trod_lt m _ _ _ hm
 obtain⟨a0,rfl,w0⟩:=open_cfg (hval 0 23 v0 rfl rfl) h0
 have k1:=h1
 have lt1:∀ x ∈ p1,x.block < W.heap.size:=by obtain⟨m,hm⟩:=k1; exact DataW.trod_lt m _ _ _ hm
 obtain⟨g1_0,g1_1,g1_2,g1_3,g1_4,g1_5,g1_6,g1_7,g1_8,g1_9,rfl,y1_0,y1_1,y1_2,y1_3,y1_4,y1_5,y1_6⟩:=open_rside (hval 1 35 v1 rfl rfl) h1
 have k2:=h2
 have lt2:∀ x ∈ p2,x.block < W.heap.size:=by obtain⟨m,hm⟩:=k2; exact DataW.trod_lt m _ _ _ hm
 obtain⟨g2_0,g2_1,g2_2,rfl,y2_0,y2_1,y2_2⟩:=open_rview (hval 2 37 v2 rfl rfl) h2
 clear hA0 hval0
 refine (walkRepairSoon (w:=W) a0 w0 g1_0 g1_1 g1_2 g1_3 g1_4 g1_5 g1_6 g1_7 g1_8 g1_9 y1_0 y1_1 y1_2 y1_3 y1_4 y1_5 y1_6 g2_0 g2_1 g2_2 y2_0 y2_1 y2_2).mono fun e W' ⟨he,bel⟩ => ?_
 subst he
 exact⟨_,rfl,_,_,_,[],_,[],hW',trodAll_mk1 (shut_bool Tryz.underlying4 _),(trodAll_cons_mk (Below.trod laidOut (by kernel_rfl) (of_decide_eq_true (by kernel_rfl)) k0 bel lt0) (trodAll_cons_mk (Below.trod laidOut (by kernel_rfl) (of_decide_eq_true (by kernel_rfl)) k1 bel lt1) (trodAll_cons_mk (Below.trod laidOut (by kernel_rfl) (of_decide_eq_true (by kernel_rfl)) k2 bel lt2) trodAll_mk0))),rfl,bel.frame _,fun h => by cases h⟩

theorem over:Rows.repairSoonRow.holds Tryz.pinned (OpenSpec.ofChange Rows.repairSoonSpec) :=
 OpenClaim.holds_of_wide 7 Tryz.f7 rfl rfl rfl rfl rfl rfl rfl ⟨rfl,rfl,rfl,rfl,rfl⟩ rfl rfl rfl rfl rfl (by kernel_rfl) Tryz.func7 (by kernel_rfl)
  (of_decide_eq_true (by kernel_rfl)) (by unfold Func.isWrapper; first | (rw [if_pos (by decide +kernel)]; kernel_rfl) | (rw [if_neg (by decide +kernel)]; exact⟨rfl,rfl⟩))
  (fun os started H enc _ => lifted os started H enc)

theorem proved:Rows.RepairSoonSaid:=over
#print axioms proved
end Go.Proofs.YtmpigdokghngiaaGreat.repairSoon
end
