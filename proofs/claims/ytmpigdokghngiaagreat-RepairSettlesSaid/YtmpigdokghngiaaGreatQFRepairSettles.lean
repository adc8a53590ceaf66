/-
 THE PROOF OF RepairSettles: for every input the law returns true, and each argument reads behind the call as it read before. No condition.
-/
import Derived.Test.YtmpigdokghngiaaGreatQ05
import Derived.Test.YtmpigdokghngiaaGreatQ24
import Derived.Test.YtmpigdokghngiaaGreatQ28
import Derived.Test.YtmpigdokghngiaaGreatQ04
import Derived.Test.YtmpigdokghngiaaGreatQ02
import Derived.Test.YtmpigdokghngiaaGreatQ25
import Derived.Deep.CutRange
import Derived.Test.YtmpigdokghngiaaGreatRows
import Derived.ProofKit
import Derived.OpenShut
import Derived.ShutString
import Derived.ChangeOld
import Derived.SliceStrings
import Derived.Lib.SmallJoins

set_option maxHeartbeats 12800000
set_option maxRecDepth 100000

section
namespace Go.Proofs.YtmpigdokghngiaaGreat
open Go.RowKit

theorem rse_a {w:World} {v cv vv:Value} {ql:List Chg} {ct view:List Row} (hv:Chgs w v ql) (hc:Tab w cv ct) (ht:Tab w vv view) (ca cb cd ce seq tok at' dg nn now rounds:Int) (la sn oo:Bool) (HF:Hid ((fewC ql 30 && fewT ct)=false)) :
  Calls Tryz.prog 5 #[.agg #[.int .i64 ca,.int .i64 cb,.int .i64 cd,.int .i64 ce],.agg #[.int .i64 seq,v,.bool la,.int .i64 tok,.int .i64 at',.bool sn,.int .i64 dg,cv,.int .i64 nn,.bool oo],.agg #[vv,.int .i64 now,.int .i64 rounds]] w fun e w' => e=.returned (.bool true)∧Below w.heap.size w w':=by
 obtain⟨qa,qc,rfl,-⟩:=hv.open'
 obtain⟨ta,tc,rfl,-⟩:=hc.open'
 obtain⟨va,vc,rfl,-⟩:=ht.open'
 obtain⟨GB,XB,VB,HB⟩:=ent3 w (.cells #[.int .i64 ca,.int .i64 cb,.int .i64 cd,.int .i64 ce] 23) (.cells #[.int .i64 seq,.slice qa ql.length qc,.bool la,.int .i64 tok,.int .i64 at',.bool sn,.int .i64 dg,.slice ta ct.length tc,.int .i64 nn,.bool oo] 35) (.cells #[.slice va view.length vc,.int .i64 now,.int .i64 rounds] 37)
 have HV:=hZq ((hv).later HB.out)
 have HC:=hZq ((hc).later HB.out)
 have HT:=hZq ((ht).later HB.out)
 clear hv hc ht
 go_enter Tryz.func5,Tryz.ntmps5
 go_wp2_with (with_reducible refine ldA aggRSide _ rfl rfl (w.heap.size+1) 0 rfl XB.out [.int .i64 seq,.slice qa ql.length qc,.bool la,.int .i64 tok,.int .i64 at',.bool sn,.int .i64 dg,.slice ta ct.length tc,.int .i64 nn,.bool oo] rfl rfl ?_)
 refine (rrpfew HV.out HC.out seq tok at' dg nn la sn oo HF).mono ?_
 rintro e w4 ⟨rfl,b4⟩
 replace GB:=hZq (upQ GB.out b4)
 replace XB:=hZq (upQ XB.out b4)
 replace VB:=hZq (upQ VB.out b4)
 replace HV:=hZq (HV.out.later b4)
 replace HC:=hZq (HC.out.later b4)
 replace HT:=hZq (HT.out.later b4)
 replace HB:=hZq (below2Z HB.out b4)
 clear b4
 go_wp2_with fail
 refine (live20 _).mono ?_
 rintro e w5 ⟨rfl,b5⟩
 replace HB:=hZq (below2Z HB.out b5)
 clear b5
 go_wp2_with fail
 go_ret
 exact⟨rfl,HB.out⟩

theorem rse_b {w:World} {v cv vv:Value} {ql:List Chg} {ct view:List Row} (hv:Chgs w v ql) (hc:Tab w cv ct) (ht:Tab w vv view) (ca cb cd ce seq tok at' dg nn now rounds:Int) (la sn oo:Bool) (HF:Hid ((fewC ql 30 && fewT ct)=true)) (HG:Hid (fewT view=false)) :
  Calls Tryz.prog 5 #[.agg #[.int .i64 ca,.int .i64 cb,.int .i64 cd,.int .i64 ce],.agg #[.int .i64 seq,v,.bool la,.int .i64 tok,.int .i64 at',.bool sn,.int .i64 dg,cv,.int .i64 nn,.bool oo],.agg #[vv,.int .i64 now,.int .i64 rounds]] w fun e w' => e=.returned (.bool true)∧Below w.heap.size w w':=by
 obtain⟨qa,qc,rfl,-⟩:=hv.open'
 obtain⟨ta,tc,rfl,-⟩:=hc.open'
 obtain⟨va,vc,rfl,-⟩:=ht.open'
 obtain⟨GB,XB,VB,HB⟩:=ent3 w (.cells #[.int .i64 ca,.int .i64 cb,.int .i64 cd,.int .i64 ce] 23) (.cells #[.int .i64 seq,.slice qa ql.length qc,.bool la,.int .i64 tok,.int .i64 at',.bool sn,.int .i64 dg,.slice ta ct.length tc,.int .i64 nn,.bool oo] 35) (.cells #[.slice va view.length vc,.int .i64 now,.int .i64 rounds] 37)
 have HV:=hZq ((hv).later HB.out)
 have HC:=hZq ((hc).later HB.out)
 have HT:=hZq ((ht).later HB.out)
 clear hv hc ht
 go_enter Tryz.func5,Tryz.ntmps5
 go_wp2_with (with_reducible refine ldA aggRSide _ rfl rfl (w.heap.size+1) 0 rfl XB.out [.int .i64 seq,.slice qa ql.length qc,.bool la,.int .i64 tok,.int .i64 at',.bool sn,.int .i64 dg,.slice ta ct.length tc,.int .i64 nn,.bool oo] rfl rfl ?_)
 refine (rrpfew HV.out HC.out seq tok at' dg nn la sn oo HF).mono ?_
 rintro e w4 ⟨rfl,b4⟩
 replace GB:=hZq (upQ GB.out b4)
 replace XB:=hZq (upQ XB.out b4)
 replace VB:=hZq (upQ VB.out b4)
 replace HV:=hZq (HV.out.later b4)
 replace HC:=hZq (HC.out.later b4)
 replace HT:=hZq (HT.out.later b4)
 replace HB:=hZq (below2Z HB.out b4)
 clear b4
 have VBk0:=ckZ VB.out 0 _ rfl
 go_wp2_with fail
 clear VBk0
 refine (fewt_eqL HT.out HG).mono ?_
 rintro e w5 ⟨rfl,b5⟩
 replace GB:=hZq (upQ GB.out b5)
 replace XB:=hZq (upQ XB.out b5)
 replace VB:=hZq (upQ VB.out b5)
 replace HV:=hZq (HV.out.later b5)
 replace HC:=hZq (HC.out.later b5)
 replace HT:=hZq (HT.out.later b5)
 replace HB:=hZq (below2Z HB.out b5)
 clear b5
 go_wp2_with fail
 refine (live20 _).mono ?_
 rintro e w6 ⟨rfl,b6⟩
 replace HB:=hZq (below2Z HB.out b6)
 clear b6
 go_wp2_with fail
 go_ret
 exact⟨rfl,HB.out⟩

theorem rse_c {w:World} {v cv vv:Value} {ql:List Chg} {ct view:List Row} (hv:Chgs w v ql) (hc:Tab w cv ct) (ht:Tab w vv view) (ca cb cd ce seq tok at' dg nn now rounds:Int) (la sn oo:Bool) (HF:Hid ((fewC ql 30 && fewT ct)=true)) (HG:Hid (fewT view=true)) (hx:¬ (lnMay ⟨ca,cb,cd,ce⟩ ⟨seq,⟨ql,la⟩,⟨tok,at'⟩,sn,dg⟩=true∧clMay ⟨ct,nn,oo⟩=true∧diMay view=true∧¬ 40 < ce∧¬ rounds < 0∧¬ 20 < rounds∧¬ now < 0∧¬ 549755813888 < now∧¬ now < at'∧¬ now < dg∧¬ seq < nn∧¬ 549755813888 < seq)) :
  Calls Tryz.prog 5 #[.agg #[.int .i64 ca,.int .i64 cb,.int .i64 cd,.int .i64 ce],.agg #[.int .i64 seq,v,.bool la,.int .i64 tok,.int .i64 at',.bool sn,.int .i64 dg,cv,.int .i64 nn,.bool oo],.agg #[vv,.int .i64 now,.int .i64 rounds]] w fun e w' => e=.returned (.bool true)∧Below w.heap.size w w':=by
 obtain⟨s1,s2,s3,s4⟩:=few_short HF.out
 have s5:Short view:=fun r hr => by have:=((fewT_yes HG.out).2 r hr); omega
 obtain⟨qa,qc,rfl,-⟩:=hv.open'
 obtain⟨ta,tc,rfl,-⟩:=hc.open'
 obtain⟨va,vc,rfl,-⟩:=ht.open'
 obtain⟨GB,XB,VB,HB⟩:=ent3 w (.cells #[.int .i64 ca,.int .i64 cb,.int .i64 cd,.int .i64 ce] 23) (.cells #[.int .i64 seq,.slice qa ql.length qc,.bool la,.int .i64 tok,.int .i64 at',.bool sn,.int .i64 dg,.slice ta ct.length tc,.int .i64 nn,.bool oo] 35) (.cells #[.slice va view.length vc,.int .i64 now,.int .i64 rounds] 37)
 have HV:=hZq ((hv).later HB.out)
 have HC:=hZq ((hc).later HB.out)
 have HT:=hZq ((ht).later HB.out)
 clear hv hc ht
 go_enter Tryz.func5,Tryz.ntmps5
 have VBk0:=ckZ VB.out 0 _ rfl
 have VBk1:=ckZ VB.out 1 _ rfl
 have VBk2:=ckZ VB.out 2 _ rfl
 have XBk0:=ckZ XB.out 0 _ rfl
 have XBk4:=ckZ XB.out 4 _ rfl
 have XBk5:=ckZ XB.out 5 _ rfl
 have XBk6:=ckZ XB.out 6 _ rfl
 have XBk8:=ckZ XB.out 8 _ rfl
 have XBk9:=ckZ XB.out 9 _ rfl
 have GBk3:=ckZ GB.out 3 _ rfl
 go_wp2_with (with_reducible refine ldA aggRSide _ rfl rfl (w.heap.size+1) 0 rfl XB.out [.int .i64 seq,.slice qa ql.length qc,.bool la,.int .i64 tok,.int .i64 at',.bool sn,.int .i64 dg,.slice ta ct.length tc,.int .i64 nn,.bool oo] rfl rfl ?_)
 clear VBk0 VBk1 VBk2 XBk0 XBk4 XBk5 XBk6 XBk8 XBk9 GBk3
 refine (rrpfew HV.out HC.out seq tok at' dg nn la sn oo HF).mono ?_
 rintro e w4 ⟨rfl,b4⟩
 replace GB:=hZq (upQ GB.out b4)
 replace XB:=hZq (upQ XB.out b4)
 replace VB:=hZq (upQ VB.out b4)
 replace HV:=hZq (HV.out.later b4)
 replace HC:=hZq (HC.out.later b4)
 replace HT:=hZq (HT.out.later b4)
 replace HB:=hZq (below2Z HB.out b4)
 clear b4
 have VBk0:=ckZ VB.out 0 _ rfl
 have VBk1:=ckZ VB.out 1 _ rfl
 have VBk2:=ckZ VB.out 2 _ rfl
 have XBk0:=ckZ XB.out 0 _ rfl
 have XBk4:=ckZ XB.out 4 _ rfl
 have XBk5:=ckZ XB.out 5 _ rfl
 have XBk6:=ckZ XB.out 6 _ rfl
 have XBk8:=ckZ XB.out 8 _ rfl
 have XBk9:=ckZ XB.out 9 _ rfl
 have GBk3:=ckZ GB.out 3 _ rfl
 go_wp2_with fail
 clear VBk0 VBk1 VBk2 XBk0 XBk4 XBk5 XBk6 XBk8 XBk9 GBk3
 refine (fewt_eqL HT.out HG).mono ?_
 rintro e w5 ⟨rfl,b5⟩
 replace GB:=hZq (upQ GB.out b5)
 replace XB:=hZq (upQ XB.out b5)
 replace VB:=hZq (upQ VB.out b5)
 replace HV:=hZq (HV.out.later b5)
 replace HC:=hZq (HC.out.later b5)
 replace HT:=hZq (HT.out.later b5)
 replace HB:=hZq (below2Z HB.out b5)
 clear b5
 by_cases hk0:40 < ce
 ·have gd74559:decide (40 < ce)=true:=by rw [decide_eq_true_eq]; omega
  have VBk0:=ckZ VB.out 0 _ rfl
  have VBk1:=ckZ VB.out 1 _ rfl
  have VBk2:=ckZ VB.out 2 _ rfl
  have XBk0:=ckZ XB.out 0 _ rfl
  have XBk4:=ckZ XB.out 4 _ rfl
  have XBk5:=ckZ XB.out 5 _ rfl
  have XBk6:=ckZ XB.out 6 _ rfl
  have XBk8:=ckZ XB.out 8 _ rfl
  have XBk9:=ckZ XB.out 9 _ rfl
  have GBk3:=ckZ GB.out 3 _ rfl
  go_wp2_with fail
  clear VBk0 VBk1 VBk2 XBk0 XBk4 XBk5 XBk6 XBk8 XBk9 GBk3
  refine (live20 _).mono ?_
  rintro e w56 ⟨rfl,b56⟩
  replace HB:=hZq (below2Z HB.out b56)
  clear b56
  go_wp2_with fail
  go_ret
  exact⟨rfl,HB.out⟩
 ·have gd65684:decide (40 < ce)=false:=by rw [decide_eq_false_iff_not]; omega
  by_cases hk1:rounds < 0
  ·have gd59093:decide (rounds < 0)=true:=by rw [decide_eq_true_eq]; omega
   have VBk0:=ckZ VB.out 0 _ rfl
   have VBk1:=ckZ VB.out 1 _ rfl
   have VBk2:=ckZ VB.out 2 _ rfl
   have XBk0:=ckZ XB.out 0 _ rfl
   have XBk4:=ckZ XB.out 4 _ rfl
   have XBk5:=ckZ XB.out 5 _ rfl
   have XBk6:=ckZ XB.out 6 _ rfl
   have XBk8:=ckZ XB.out 8 _ rfl
   have XBk9:=ckZ XB.out 9 _ rfl
   have GBk3:=ckZ GB.out 3 _ rfl
   go_wp2_with fail
   clear VBk0 VBk1 VBk2 XBk0 XBk4 XBk5 XBk6 XBk8 XBk9 GBk3
   refine (live20 _).mono ?_
   rintro e w56 ⟨rfl,b56⟩
   replace HB:=hZq (below2Z HB.out b56)
   clear b56
   go_wp2_with fail
   go_ret
   exact⟨rfl,HB.out⟩
  ·have gd8808:decide (rounds < 0)=false:=by rw [decide_eq_false_iff_not]; omega
   by_cases hk2:20 < rounds
   ·have gd99722:decide (20 < rounds)=true:=by rw [decide_eq_true_eq]; omega
    have VBk0:=ckZ VB.out 0 _ rfl
    have VBk1:=ckZ VB.out 1 _ rfl
    have VBk2:=ckZ VB.out 2 _ rfl
    have XBk0:=ckZ XB.out 0 _ rfl
    have XBk4:=ckZ XB.out 4 _ rfl
    have XBk5:=ckZ XB.out 5 _ rfl
    have XBk6:=ckZ XB.out 6 _ rfl
    have XBk8:=ckZ XB.out 8 _ rfl
    have XBk9:=ckZ XB.out 9 _ rfl
    have GBk3:=ckZ GB.out 3 _ rfl
    go_wp2_with fail
    clear VBk0 VBk1 VBk2 XBk0 XBk4 XBk5 XBk6 XBk8 XBk9 GBk3
    refine (live20 _).mono ?_
    rintro e w56 ⟨rfl,b56⟩
    replace HB:=hZq (below2Z HB.out b56)
    clear b56
    go_wp2_with fail
    go_ret
    exact⟨rfl,HB.out⟩
   ·have gd98808:decide (20 < rounds)=false:=by rw [decide_eq_false_iff_not]; omega
    have VBk0:=ckZ VB.out 0 _ rfl
    have VBk1:=ckZ VB.out 1 _ rfl
    have VBk2:=ckZ VB.out 2 _ rfl
    have XBk0:=ckZ XB.out 0 _ rfl
    have XBk4:=ckZ XB.out 4 _ rfl
    have XBk5:=ckZ XB.out 5 _ rfl
    have XBk6:=ckZ XB.out 6 _ rfl
    have XBk8:=ckZ XB.out 8 _ rfl
    have XBk9:=ckZ XB.out 9 _ rfl
    have GBk3:=ckZ GB.out 3 _ rfl
    go_wp2_with (first | (with_reducible refine ldG aggCfg _ rfl rfl (w.heap.size) 0 rfl GB.out [.int .i64 ca,.int .i64 cb,.int .i64 cd,.int .i64 ce] rfl rfl ?_) | (with_reducible refine ldG aggLink _ rfl rfl (w.heap.size+1) 0 rfl XB.out [.int .i64 seq,.slice qa ql.length qc,.bool la,.int .i64 tok,.int .i64 at',.bool sn,.int .i64 dg] rfl rfl ?_))
    clear VBk0 VBk1 VBk2 XBk0 XBk4 XBk5 XBk6 XBk8 XBk9 GBk3
    cases hL:lnMay ⟨ca,cb,cd,ce⟩ ⟨seq,⟨ql,la⟩,⟨tok,at'⟩,sn,dg⟩ with
    | false =>
     refine (rlmay_any HV.out s1 s2 la sn seq tok at' dg ca cb cd ce (hZq hL)).mono ?_
     rintro e w56 ⟨rfl,b56⟩
     replace GB:=hZq (upQ GB.out b56)
     replace XB:=hZq (upQ XB.out b56)
     replace VB:=hZq (upQ VB.out b56)
     replace HV:=hZq (HV.out.later b56)
     replace HC:=hZq (HC.out.later b56)
     replace HT:=hZq (HT.out.later b56)
     replace HB:=hZq (below2Z HB.out b56)
     clear b56
     have VBk0:=ckZ VB.out 0 _ rfl
     have VBk1:=ckZ VB.out 1 _ rfl
     have VBk2:=ckZ VB.out 2 _ rfl
     have XBk0:=ckZ XB.out 0 _ rfl
     have XBk4:=ckZ XB.out 4 _ rfl
     have XBk5:=ckZ XB.out 5 _ rfl
     have XBk6:=ckZ XB.out 6 _ rfl
     have XBk8:=ckZ XB.out 8 _ rfl
     have XBk9:=ckZ XB.out 9 _ rfl
     have GBk3:=ckZ GB.out 3 _ rfl
     go_wp2_with fail
     clear VBk0 VBk1 VBk2 XBk0 XBk4 XBk5 XBk6 XBk8 XBk9 GBk3
     refine (live20 _).mono ?_
     rintro e w57 ⟨rfl,b57⟩
     replace HB:=hZq (below2Z HB.out b57)
     clear b57
     go_wp2_with fail
     go_ret
     exact⟨rfl,HB.out⟩
    | true =>
     refine (rlmay_any HV.out s1 s2 la sn seq tok at' dg ca cb cd ce (hZq hL)).mono ?_
     rintro e w6 ⟨rfl,b6⟩
     replace GB:=hZq (upQ GB.out b6)
     replace XB:=hZq (upQ XB.out b6)
     replace VB:=hZq (upQ VB.out b6)
     replace HV:=hZq (HV.out.later b6)
     replace HC:=hZq (HC.out.later b6)
     replace HT:=hZq (HT.out.later b6)
     replace HB:=hZq (below2Z HB.out b6)
     clear b6
     have VBk0:=ckZ VB.out 0 _ rfl
     have VBk1:=ckZ VB.out 1 _ rfl
     have VBk2:=ckZ VB.out 2 _ rfl
     have XBk0:=ckZ XB.out 0 _ rfl
     have XBk4:=ckZ XB.out 4 _ rfl
     have XBk5:=ckZ XB.out 5 _ rfl
     have XBk6:=ckZ XB.out 6 _ rfl
     have XBk8:=ckZ XB.out 8 _ rfl
     have XBk9:=ckZ XB.out 9 _ rfl
     have GBk3:=ckZ GB.out 3 _ rfl
     go_wp2_with (with_reducible refine ldG aggCli _ rfl rfl (w.heap.size+1) 7 rfl XB.out [.slice ta ct.length tc,.int .i64 nn,.bool oo] rfl rfl ?_)
     clear VBk0 VBk1 VBk2 XBk0 XBk4 XBk5 XBk6 XBk8 XBk9 GBk3
     cases hC:clMay ⟨ct,nn,oo⟩ with
     | false =>
      refine (rclmay_eq HC.out s3 nn oo (hZq hC)).mono ?_
      rintro e w57 ⟨rfl,b57⟩
      replace GB:=hZq (upQ GB.out b57)
      replace XB:=hZq (upQ XB.out b57)
      replace VB:=hZq (upQ VB.out b57)
      replace HV:=hZq (HV.out.later b57)
      replace HC:=hZq (HC.out.later b57)
      replace HT:=hZq (HT.out.later b57)
      replace HB:=hZq (below2Z HB.out b57)
      clear b57
      have VBk0:=ckZ VB.out 0 _ rfl
      have VBk1:=ckZ VB.out 1 _ rfl
      have VBk2:=ckZ VB.out 2 _ rfl
      have XBk0:=ckZ XB.out 0 _ rfl
      have XBk4:=ckZ XB.out 4 _ rfl
      have XBk5:=ckZ XB.out 5 _ rfl
      have XBk6:=ckZ XB.out 6 _ rfl
      have XBk8:=ckZ XB.out 8 _ rfl
      have XBk9:=ckZ XB.out 9 _ rfl
      have GBk3:=ckZ GB.out 3 _ rfl
      go_wp2_with fail
      clear VBk0 VBk1 VBk2 XBk0 XBk4 XBk5 XBk6 XBk8 XBk9 GBk3
      refine (live20 _).mono ?_
      rintro e w58 ⟨rfl,b58⟩
      replace HB:=hZq (below2Z HB.out b58)
      clear b58
      go_wp2_with fail
      go_ret
      exact⟨rfl,HB.out⟩
     | true =>
      refine (rclmay_eq HC.out s3 nn oo (hZq hC)).mono ?_
      rintro e w7 ⟨rfl,b7⟩
      replace GB:=hZq (upQ GB.out b7)
      replace XB:=hZq (upQ XB.out b7)
      replace VB:=hZq (upQ VB.out b7)
      replace HV:=hZq (HV.out.later b7)
      replace HC:=hZq (HC.out.later b7)
      replace HT:=hZq (HT.out.later b7)
      replace HB:=hZq (below2Z HB.out b7)
      clear b7
      have VBk0:=ckZ VB.out 0 _ rfl
      have VBk1:=ckZ VB.out 1 _ rfl
      have VBk2:=ckZ VB.out 2 _ rfl
      have XBk0:=ckZ XB.out 0 _ rfl
      have XBk4:=ckZ XB.out 4 _ rfl
      have XBk5:=ckZ XB.out 5 _ rfl
      have XBk6:=ckZ XB.out 6 _ rfl
      have XBk8:=ckZ XB.out 8 _ rfl
      have XBk9:=ckZ XB.out 9 _ rfl
      have GBk3:=ckZ GB.out 3 _ rfl
      go_wp2_with fail
      clear VBk0 VBk1 VBk2 XBk0 XBk4 XBk5 XBk6 XBk8 XBk9 GBk3
      cases hD:diMay view with
      | false =>
       refine (rdimay_eq HT.out s5 (hZq hD)).mono ?_
       rintro e w58 ⟨rfl,b58⟩
       replace GB:=hZq (upQ GB.out b58)
       replace XB:=hZq (upQ XB.out b58)
       replace VB:=hZq (upQ VB.out b58)
       replace HV:=hZq (HV.out.later b58)
       replace HC:=hZq (HC.out.later b58)
       replace HT:=hZq (HT.out.later b58)
       replace HB:=hZq (below2Z HB.out b58)
       clear b58
       have VBk0:=ckZ VB.out 0 _ rfl
       have VBk1:=ckZ VB.out 1 _ rfl
       have VBk2:=ckZ VB.out 2 _ rfl
       have XBk0:=ckZ XB.out 0 _ rfl
       have XBk4:=ckZ XB.out 4 _ rfl
       have XBk5:=ckZ XB.out 5 _ rfl
       have XBk6:=ckZ XB.out 6 _ rfl
       have XBk8:=ckZ XB.out 8 _ rfl
       have XBk9:=ckZ XB.out 9 _ rfl
       have GBk3:=ckZ GB.out 3 _ rfl
       go_wp2_with fail
       clear VBk0 VBk1 VBk2 XBk0 XBk4 XBk5 XBk6 XBk8 XBk9 GBk3
       refine (live20 _).mono ?_
       rintro e w59 ⟨rfl,b59⟩
       replace HB:=hZq (below2Z HB.out b59)
       clear b59
       go_wp2_with fail
       go_ret
       exact⟨rfl,HB.out⟩
      | true =>
       refine (rdimay_eq HT.out s5 (hZq hD)).mono ?_
       rintro e w8 ⟨rfl,b8⟩
       replace GB:=hZq (upQ GB.out b8)
       replace XB:=hZq (upQ XB.out b8)
       replace VB:=hZq (upQ VB.out b8)
       replace HV:=hZq (HV.out.later b8)
       replace HC:=hZq (HC.out.later b8)
       replace HT:=hZq (HT.out.later b8)
       replace HB:=hZq (below2Z HB.out b8)
       clear b8
       by_cases hk3:now < 0
       ·have gd25442:decide (now < 0)=true:=by rw [decide_eq_true_eq]; omega
        have VBk0:=ckZ VB.out 0 _ rfl
        have VBk1:=ckZ VB.out 1 _ rfl
        have VBk2:=ckZ VB.out 2 _ rfl
        have XBk0:=ckZ XB.out 0 _ rfl
        have XBk4:=ckZ XB.out 4 _ rfl
        have XBk5:=ckZ XB.out 5 _ rfl
        have XBk6:=ckZ XB.out 6 _ rfl
        have XBk8:=ckZ XB.out 8 _ rfl
        have XBk9:=ckZ XB.out 9 _ rfl
        have GBk3:=ckZ GB.out 3 _ rfl
        go_wp2_with fail
        clear VBk0 VBk1 VBk2 XBk0 XBk4 XBk5 XBk6 XBk8 XBk9 GBk3
        refine (live20 _).mono ?_
        rintro e w59 ⟨rfl,b59⟩
        replace HB:=hZq (below2Z HB.out b59)
        clear b59
        go_wp2_with fail
        go_ret
        exact⟨rfl,HB.out⟩
       ·have gd38891:decide (now < 0)=false:=by rw [decide_eq_false_iff_not]; omega
        by_cases hk4:549755813888 < now
        ·have gd25764:decide (549755813888 < now)=true:=by rw [decide_eq_true_eq]; omega
         have VBk0:=ckZ VB.out 0 _ rfl
         have VBk1:=ckZ VB.out 1 _ rfl
         have VBk2:=ckZ VB.out 2 _ rfl
         have XBk0:=ckZ XB.out 0 _ rfl
         have XBk4:=ckZ XB.out 4 _ rfl
         have XBk5:=ckZ XB.out 5 _ rfl
         have XBk6:=ckZ XB.out 6 _ rfl
         have XBk8:=ckZ XB.out 8 _ rfl
         have XBk9:=ckZ XB.out 9 _ rfl
         have GBk3:=ckZ GB.out 3 _ rfl
         go_wp2_with fail
         clear VBk0 VBk1 VBk2 XBk0 XBk4 XBk5 XBk6 XBk8 XBk9 GBk3
         refine (live20 _).mono ?_
         rintro e w59 ⟨rfl,b59⟩
         replace HB:=hZq (below2Z HB.out b59)
         clear b59
         go_wp2_with fail
         go_ret
         exact⟨rfl,HB.out⟩
        ·have gd24117:decide (549755813888 < now)=false:=by rw [decide_eq_false_iff_not]; omega
         by_cases hk5:now < at'
         ·have gd70566:decide (now < at')=true:=by rw [decide_eq_true_eq]; omega
          have VBk0:=ckZ VB.out 0 _ rfl
          have VBk1:=ckZ VB.out 1 _ rfl
          have VBk2:=ckZ VB.out 2 _ rfl
          have XBk0:=ckZ XB.out 0 _ rfl
          have XBk4:=ckZ XB.out 4 _ rfl
          have XBk5:=ckZ XB.out 5 _ rfl
          have XBk6:=ckZ XB.out 6 _ rfl
          have XBk8:=ckZ XB.out 8 _ rfl
          have XBk9:=ckZ XB.out 9 _ rfl
          have GBk3:=ckZ GB.out 3 _ rfl
          go_wp2_with fail
          clear VBk0 VBk1 VBk2 XBk0 XBk4 XBk5 XBk6 XBk8 XBk9 GBk3
          refine (live20 _).mono ?_
          rintro e w59 ⟨rfl,b59⟩
          replace HB:=hZq (below2Z HB.out b59)
          clear b59
          go_wp2_with fail
          go_ret
          exact⟨rfl,HB.out⟩
         ·have gd21314:decide (now < at')=false:=by rw [decide_eq_false_iff_not]; omega
          by_cases hk6:now < dg
          ·have gd83531:decide (now < dg)=true:=by rw [decide_eq_true_eq]; omega
           have VBk0:=ckZ VB.out 0 _ rfl
           have VBk1:=ckZ VB.out 1 _ rfl
           have VBk2:=ckZ VB.out 2 _ rfl
           have XBk0:=ckZ XB.out 0 _ rfl
           have XBk4:=ckZ XB.out 4 _ rfl
           have XBk5:=ckZ XB.out 5 _ rfl
           have XBk6:=ckZ XB.out 6 _ rfl
           have XBk8:=ckZ XB.out 8 _ rfl
           have XBk9:=ckZ XB.out 9 _ rfl
           have GBk3:=ckZ GB.out 3 _ rfl
           go_wp2_with fail
           clear VBk0 VBk1 VBk2 XBk0 XBk4 XBk5 XBk6 XBk8 XBk9 GBk3
           refine (live20 _).mono ?_
           rintro e w59 ⟨rfl,b59⟩
           replace HB:=hZq (below2Z HB.out b59)
           clear b59
           go_wp2_with fail
           go_ret
           exact⟨rfl,HB.out⟩
          ·have gd89340:decide (now < dg)=false:=by rw [decide_eq_false_iff_not]; omega
           by_cases hk7:seq < nn
           ·have gd5261:decide (seq < nn)=true:=by rw [decide_eq_true_eq]; omega
            have VBk0:=ckZ VB.out 0 _ rfl
            have VBk1:=ckZ VB.out 1 _ rfl
            have VBk2:=ckZ VB.out 2 _ rfl
            have XBk0:=ckZ XB.out 0 _ rfl
            have XBk4:=ckZ XB.out 4 _ rfl
            have XBk5:=ckZ XB.out 5 _ rfl
            have XBk6:=ckZ XB.out 6 _ rfl
            have XBk8:=ckZ XB.out 8 _ rfl
            have XBk9:=ckZ XB.out 9 _ rfl
            have GBk3:=ckZ GB.out 3 _ rfl
            go_wp2_with fail
            clear VBk0 VBk1 VBk2 XBk0 XBk4 XBk5 XBk6 XBk8 XBk9 GBk3
            refine (live20 _).mono ?_
            rintro e w59 ⟨rfl,b59⟩
            replace HB:=hZq (below2Z HB.out b59)
            clear b59
            go_wp2_with fail
            go_ret
            exact⟨rfl,HB.out⟩
           ·have gd8476:decide (seq < nn)=false:=by rw [decide_eq_false_iff_not]; omega
            by_cases hk8:549755813888 < seq
            ·have gd62220:decide (549755813888 < seq)=true:=by rw [decide_eq_true_eq]; omega
             have VBk0:=ckZ VB.out 0 _ rfl
             have VBk1:=ckZ VB.out 1 _ rfl
             have VBk2:=ckZ VB.out 2 _ rfl
             have XBk0:=ckZ XB.out 0 _ rfl
             have XBk4:=ckZ XB.out 4 _ rfl
             have XBk5:=ckZ XB.out 5 _ rfl
             have XBk6:=ckZ XB.out 6 _ rfl
             have XBk8:=ckZ XB.out 8 _ rfl
             have XBk9:=ckZ XB.out 9 _ rfl
             have GBk3:=ckZ GB.out 3 _ rfl
             go_wp2_with fail
             clear VBk0 VBk1 VBk2 XBk0 XBk4 XBk5 XBk6 XBk8 XBk9 GBk3
             refine (live20 _).mono ?_
             rintro e w59 ⟨rfl,b59⟩
             replace HB:=hZq (below2Z HB.out b59)
             clear b59
             go_wp2_with fail
             go_ret
             exact⟨rfl,HB.out⟩
            ·have gd38812:decide (549755813888 < seq)=false:=by rw [decide_eq_false_iff_not]; omega
             exact absurd ⟨hL,hC,hD,by omega,by omega,by omega,by omega,by omega,by omega,by omega,by omega,by omega⟩ hx

theorem rse_d {w:World} {v cv vv:Value} {ql:List Chg} {ct view:List Row} (hv:Chgs w v ql) (hc:Tab w cv ct) (ht:Tab w vv view) (ca cb cd ce seq tok at' dg nn now rounds:Int) (la sn oo:Bool) (HF:Hid ((fewC ql 30 && fewT ct)=true)) (HG:Hid (fewT view=true)) (HL:Hid (lnMay ⟨ca,cb,cd,ce⟩ ⟨seq,⟨ql,la⟩,⟨tok,at'⟩,sn,dg⟩=true)) (HC0:Hid (clMay ⟨ct,nn,oo⟩=true)) (HD:Hid (diMay view=true)) (hb:¬ 40 < ce∧¬ rounds < 0∧¬ 20 < rounds∧¬ now < 0∧¬ 549755813888 < now∧¬ now < at'∧¬ now < dg∧¬ seq < nn∧¬ 549755813888 < seq) {xas xat xaa xad xann:Int} {xaq:List Chg} {xal xan:Bool} {xac:List Row} {bd:Int} (HBD:Hid (rpBound ⟨ca,cb,cd,ce⟩=bd)) (HBD2:Hid (0≤bd∧bd≤100∧ca≤bd∧bd=ca+ce+2∧0≤ca∧0≤ce)) (HA:Hid (rpSettle ⟨ca,cb,cd,ce⟩ view (min (bd+rounds) 3000).toNat now (⟨seq,⟨ql,la⟩,⟨tok,at'⟩,sn,dg⟩,(⟨ct,nn,oo⟩ : Cli))=(⟨xas,⟨xaq,xal⟩,⟨xat,xaa⟩,xan,xad⟩,(⟨xac,xann,false⟩ : Cli)))) (HTS:Hid (tSame xac view=true)) (HS:Hid (rpSynced (⟨xas,⟨xaq,xal⟩,⟨xat,xaa⟩,xan,xad⟩,(⟨xac,xann,false⟩ : Cli)) view=true)) :
  Calls Tryz.prog 5 #[.agg #[.int .i64 ca,.int .i64 cb,.int .i64 cd,.int .i64 ce],.agg #[.int .i64 seq,v,.bool la,.int .i64 tok,.int .i64 at',.bool sn,.int .i64 dg,cv,.int .i64 nn,.bool oo],.agg #[vv,.int .i64 now,.int .i64 rounds]] w fun e w' => e=.returned (.bool true)∧Below w.heap.size w w':=by
 obtain⟨s1,s2,s3,s4⟩:=few_short HF.out
 have s5:Short view:=fun r hr => by have:=((fewT_yes HG.out).2 r hr); omega
 obtain⟨k0,k1,k2,k3,k4,k5,k6,k7,k8⟩:=hb
 have hbd:=HBD2.out
 have w1:IntKind.i64.wrap (bd+rounds)=bd+rounds:=IntWalk.i64_in _ (by omega)
 have w2:IntKind.i64.wrap (ca+ce)=ca+ce:=IntWalk.i64_in _ (by omega)
 have w3:IntKind.i64.wrap (ca+ce+2)=ca+ce+2:=IntWalk.i64_in _ (by omega)
 have g8:decide (bd < ca)=false:=by rw [decide_eq_false_iff_not]; omega
 have g9:decide (ca+ce+2 < bd)=false:=by rw [decide_eq_false_iff_not]; omega
 clear hbd
 have HSA:=hZq (settle_fit (cfg:=⟨ca,cb,cd,ce⟩) (view:=view) (min (bd+rounds) 3000).toNat (t:=now) (RpFit.mk (s:=(⟨seq,⟨ql,la⟩,⟨tok,at'⟩,sn,dg⟩,(⟨ct,nn,oo⟩ : Cli))) s1 s2 s3 s4))
 rw [HA.out] at HSA
 have gd65684:decide (40 < ce)=false:=by rw [decide_eq_false_iff_not]; omega
 have gd8808:decide (rounds < 0)=false:=by rw [decide_eq_false_iff_not]; omega
 have gd98808:decide (20 < rounds)=false:=by rw [decide_eq_false_iff_not]; omega
 have gd38891:decide (now < 0)=false:=by rw [decide_eq_false_iff_not]; omega
 have gd24117:decide (549755813888 < now)=false:=by rw [decide_eq_false_iff_not]; omega
 have gd21314:decide (now < at')=false:=by rw [decide_eq_false_iff_not]; omega
 have gd89340:decide (now < dg)=false:=by rw [decide_eq_false_iff_not]; omega
 have gd8476:decide (seq < nn)=false:=by rw [decide_eq_false_iff_not]; omega
 have gd38812:decide (549755813888 < seq)=false:=by rw [decide_eq_false_iff_not]; omega
 have HC1:=HC0
 clear HC0
 obtain⟨qa,qc,rfl,-⟩:=hv.open'
 obtain⟨ta,tc,rfl,-⟩:=hc.open'
 obtain⟨va,vc,rfl,-⟩:=ht.open'
 obtain⟨GB,XB,VB,HB⟩:=ent3 w (.cells #[.int .i64 ca,.int .i64 cb,.int .i64 cd,.int .i64 ce] 23) (.cells #[.int .i64 seq,.slice qa ql.length qc,.bool la,.int .i64 tok,.int .i64 at',.bool sn,.int .i64 dg,.slice ta ct.length tc,.int .i64 nn,.bool oo] 35) (.cells #[.slice va view.length vc,.int .i64 now,.int .i64 rounds] 37)
 have HV:=hZq ((hv).later HB.out)
 have HC:=hZq ((hc).later HB.out)
 have HT:=hZq ((ht).later HB.out)
 clear hv hc ht
 go_enter Tryz.func5,Tryz.ntmps5
 have VBk0:=ckZ VB.out 0 _ rfl
 have VBk1:=ckZ VB.out 1 _ rfl
 have VBk2:=ckZ VB.out 2 _ rfl
 have XBk0:=ckZ XB.out 0 _ rfl
 have XBk4:=ckZ XB.out 4 _ rfl
 have XBk5:=ckZ XB.out 5 _ rfl
 have XBk6:=ckZ XB.out 6 _ rfl
 have XBk8:=ckZ XB.out 8 _ rfl
 have XBk9:=ckZ XB.out 9 _ rfl
 have GBk3:=ckZ GB.out 3 _ rfl
 go_wp2_with (with_reducible refine ldA aggRSide _ rfl rfl (w.heap.size+1) 0 rfl XB.out [.int .i64 seq,.slice qa ql.length qc,.bool la,.int .i64 tok,.int .i64 at',.bool sn,.int .i64 dg,.slice ta ct.length tc,.int .i64 nn,.bool oo] rfl rfl ?_)
 clear VBk0 VBk1 VBk2 XBk0 XBk4 XBk5 XBk6 XBk8 XBk9 GBk3
 refine (rrpfew HV.out HC.out seq tok at' dg nn la sn oo HF).mono ?_
 rintro e w4 ⟨rfl,b4⟩
 replace GB:=hZq (upQ GB.out b4)
 replace XB:=hZq (upQ XB.out b4)
 replace VB:=hZq (upQ VB.out b4)
 replace HV:=hZq (HV.out.later b4)
 replace HC:=hZq (HC.out.later b4)
 replace HT:=hZq (HT.out.later b4)
 replace HB:=hZq (below2Z HB.out b4)
 clear b4
 have VBk0:=ckZ VB.out 0 _ rfl
 have VBk1:=ckZ VB.out 1 _ rfl
 have VBk2:=ckZ VB.out 2 _ rfl
 have XBk0:=ckZ XB.out 0 _ rfl
 have XBk4:=ckZ XB.out 4 _ rfl
 have XBk5:=ckZ XB.out 5 _ rfl
 have XBk6:=ckZ XB.out 6 _ rfl
 have XBk8:=ckZ XB.out 8 _ rfl
 have XBk9:=ckZ XB.out 9 _ rfl
 have GBk3:=ckZ GB.out 3 _ rfl
 go_wp2_with fail
 clear VBk0 VBk1 VBk2 XBk0 XBk4 XBk5 XBk6 XBk8 XBk9 GBk3
 refine (fewt_eqL HT.out HG).mono ?_
 rintro e w5 ⟨rfl,b5⟩
 replace GB:=hZq (upQ GB.out b5)
 replace XB:=hZq (upQ XB.out b5)
 replace VB:=hZq (upQ VB.out b5)
 replace HV:=hZq (HV.out.later b5)
 replace HC:=hZq (HC.out.later b5)
 replace HT:=hZq (HT.out.later b5)
 replace HB:=hZq (below2Z HB.out b5)
 clear b5
 have VBk0:=ckZ VB.out 0 _ rfl
 have VBk1:=ckZ VB.out 1 _ rfl
 have VBk2:=ckZ VB.out 2 _ rfl
 have XBk0:=ckZ XB.out 0 _ rfl
 have XBk4:=ckZ XB.out 4 _ rfl
 have XBk5:=ckZ XB.out 5 _ rfl
 have XBk6:=ckZ XB.out 6 _ rfl
 have XBk8:=ckZ XB.out 8 _ rfl
 have XBk9:=ckZ XB.out 9 _ rfl
 have GBk3:=ckZ GB.out 3 _ rfl
 go_wp2_with (first | (with_reducible refine ldG aggCfg _ rfl rfl (w.heap.size) 0 rfl GB.out [.int .i64 ca,.int .i64 cb,.int .i64 cd,.int .i64 ce] rfl rfl ?_) | (with_reducible refine ldG aggLink _ rfl rfl (w.heap.size+1) 0 rfl XB.out [.int .i64 seq,.slice qa ql.length qc,.bool la,.int .i64 tok,.int .i64 at',.bool sn,.int .i64 dg] rfl rfl ?_))
 clear VBk0 VBk1 VBk2 XBk0 XBk4 XBk5 XBk6 XBk8 XBk9 GBk3
 refine (rlmay_any HV.out s1 s2 la sn seq tok at' dg ca cb cd ce HL).mono ?_
 rintro e w6 ⟨rfl,b6⟩
 replace GB:=hZq (upQ GB.out b6)
 replace XB:=hZq (upQ XB.out b6)
 replace VB:=hZq (upQ VB.out b6)
 replace HV:=hZq (HV.out.later b6)
 replace HC:=hZq (HC.out.later b6)
 replace HT:=hZq (HT.out.later b6)
 replace HB:=hZq (below2Z HB.out b6)
 clear b6
 have VBk0:=ckZ VB.out 0 _ rfl
 have VBk1:=ckZ VB.out 1 _ rfl
 have VBk2:=ckZ VB.out 2 _ rfl
 have XBk0:=ckZ XB.out 0 _ rfl
 have XBk4:=ckZ XB.out 4 _ rfl
 have XBk5:=ckZ XB.out 5 _ rfl
 have XBk6:=ckZ XB.out 6 _ rfl
 have XBk8:=ckZ XB.out 8 _ rfl
 have XBk9:=ckZ XB.out 9 _ rfl
 have GBk3:=ckZ GB.out 3 _ rfl
 go_wp2_with (with_reducible refine ldG aggCli _ rfl rfl (w.heap.size+1) 7 rfl XB.out [.slice ta ct.length tc,.int .i64 nn,.bool oo] rfl rfl ?_)
 clear VBk0 VBk1 VBk2 XBk0 XBk4 XBk5 XBk6 XBk8 XBk9 GBk3
 refine (rclmay_eq HC.out s3 nn oo HC1).mono ?_
 rintro e w7 ⟨rfl,b7⟩
 replace GB:=hZq (upQ GB.out b7)
 replace XB:=hZq (upQ XB.out b7)
 replace VB:=hZq (upQ VB.out b7)
 replace HV:=hZq (HV.out.later b7)
 replace HC:=hZq (HC.out.later b7)
 replace HT:=hZq (HT.out.later b7)
 replace HB:=hZq (below2Z HB.out b7)
 clear b7
 have VBk0:=ckZ VB.out 0 _ rfl
 have VBk1:=ckZ VB.out 1 _ rfl
 have VBk2:=ckZ VB.out 2 _ rfl
 have XBk0:=ckZ XB.out 0 _ rfl
 have XBk4:=ckZ XB.out 4 _ rfl
 have XBk5:=ckZ XB.out 5 _ rfl
 have XBk6:=ckZ XB.out 6 _ rfl
 have XBk8:=ckZ XB.out 8 _ rfl
 have XBk9:=ckZ XB.out 9 _ rfl
 have GBk3:=ckZ GB.out 3 _ rfl
 go_wp2_with fail
 clear VBk0 VBk1 VBk2 XBk0 XBk4 XBk5 XBk6 XBk8 XBk9 GBk3
 refine (rdimay_eq HT.out s5 HD).mono ?_
 rintro e w8 ⟨rfl,b8⟩
 replace GB:=hZq (upQ GB.out b8)
 replace XB:=hZq (upQ XB.out b8)
 replace VB:=hZq (upQ VB.out b8)
 replace HV:=hZq (HV.out.later b8)
 replace HC:=hZq (HC.out.later b8)
 replace HT:=hZq (HT.out.later b8)
 replace HB:=hZq (below2Z HB.out b8)
 clear b8
 have VBk0:=ckZ VB.out 0 _ rfl
 have VBk1:=ckZ VB.out 1 _ rfl
 have VBk2:=ckZ VB.out 2 _ rfl
 have XBk0:=ckZ XB.out 0 _ rfl
 have XBk4:=ckZ XB.out 4 _ rfl
 have XBk5:=ckZ XB.out 5 _ rfl
 have XBk6:=ckZ XB.out 6 _ rfl
 have XBk8:=ckZ XB.out 8 _ rfl
 have XBk9:=ckZ XB.out 9 _ rfl
 have GBk3:=ckZ GB.out 3 _ rfl
 go_upto_region 5 with fail
 clear VBk0 VBk1 VBk2 XBk0 XBk4 XBk5 XBk6 XBk8 XBk9 GBk3
 go_upto_region 5 with fail
 go_cut [7] from 93 to 105 (fun pp wx => ∃ B xaua xauc xata xatc,pp=.pointer (some ⟨B,0,none⟩)∧Hid (wx.heap[B]?=some (.cells #[.int .i64 xas,.slice xaua xaq.length xauc,.bool xal,.int .i64 xat,.int .i64 xaa,.bool xan,.int .i64 xad,.slice xata xac.length xatc,.int .i64 xann,.bool false] 41 (0,0)))∧Hid (Chgs wx (.slice xaua xaq.length xauc) xaq)∧Hid (Tab wx (.slice xata xac.length xatc) xac)∧Hid (Below w8.heap.size w8 wx))
 case first =>
  obtain⟨BS,hBS⟩ : ∃ BS:List (Nat × List Value),BS=[(w.heap.size,[.int .i64 ca,.int .i64 cb,.int .i64 cd,.int .i64 ce]),(w.heap.size+1,[.int .i64 seq,.slice qa ql.length qc,.bool la,.int .i64 tok,.int .i64 at',.bool sn,.int .i64 dg,.slice ta ct.length tc,.int .i64 nn,.bool oo]),(w.heap.size+1+1,[.slice va view.length vc,.int .i64 now,.int .i64 rounds])]:=⟨_,rfl⟩
  have D0:=hZq (show heldB w8 BS from by rw [hBS]; exact heldB_cons (cellsAt_block GB.out) (heldB_cons (cellsAt_block XB.out) (heldB_cons (cellsAt_block VB.out) (heldB_nil _))))
  have hL:=heldB_at (b:=w.heap.size) (vs:=[.int .i64 ca,.int .i64 cb,.int .i64 cd,.int .i64 ce]) (bs:=BS) (by rw [hBS]; simp)
  have hq0:=hL 0 _ rfl
  have hq1:=hL 1 _ rfl
  have hq2:=hL 2 _ rfl
  have hq3:=hL 3 _ rfl
  clear hL
  have hL:=heldB_at (b:=w.heap.size+1) (vs:=[.int .i64 seq,.slice qa ql.length qc,.bool la,.int .i64 tok,.int .i64 at',.bool sn,.int .i64 dg,.slice ta ct.length tc,.int .i64 nn,.bool oo]) (bs:=BS) (by rw [hBS]; simp)
  have hq4:=hL 0 _ rfl
  have hq5:=hL 1 _ rfl
  have hq6:=hL 2 _ rfl
  have hq7:=hL 3 _ rfl
  have hq8:=hL 4 _ rfl
  have hq9:=hL 5 _ rfl
  have hq10:=hL 6 _ rfl
  have hq11:=hL 7 _ rfl
  have hq12:=hL 8 _ rfl
  have hq13:=hL 9 _ rfl
  clear hL
  have hL:=heldB_at (b:=w.heap.size+1+1) (vs:=[.slice va view.length vc,.int .i64 now,.int .i64 rounds]) (bs:=BS) (by rw [hBS]; simp)
  have hq14:=hL 0 _ rfl
  have hq15:=hL 1 _ rfl
  have hq16:=hL 2 _ rfl
  clear hL
  clear hBS
  have K0:Hid (Below w8.heap.size w8 w8.drew):=hZq (Below.refl _ _).drew
  refine wp_region_held_drew (S:=(fun X => heldB X BS)) (by kernel_rfl) ?_ (fun hHeld => ?_)
  ·exact heldB_up K0.out D0.out
  generalize w8.drew=z0 at K0 hHeld ⊢
  refine tkZ 0 ?_
  refine tkZ 1 ?_
  refine tkZ 3 ?_
  refine tkZ 4 ?_
  refine tkZ 5 ?_
  refine tkZ 6 ?_
  refine tkZ 7 ?_
  refine tkZ 9 ?_
  refine tkZ 10 ?_
  refine wpAnyH_ready (rs:=[2,13]) (by as_aux_lemma => kernel_rfl) (by simp) ?_
  refine AllReadyH.cons rfl (fun Kx hK => ?_) (AllReadyH.cons rfl (fun Kx hK => ?_) (AllReadyH.nil))
  ·go_simp
   refine (rpmine (HV.out.later (K0.out)) (HC.out.later (K0.out)) seq tok at' dg nn la sn oo).mono ?_
   rintro e z1 ⟨rfl,bz1⟩
   have K1:=hZq (below2Z K0.out bz1)
   have D1:=hZq (heldB_up K1.out D0.out)
   clear bz1
   go_wp2_with fail
   refine hK.out _ _ ?_ (fun hHeld2 => ?_)
   ·exact D1.out
   clear hK Kx hHeld
   have hHeld:=hHeld2
   clear hHeld2
   try simp only [Act.put,List.setIfInBounds_toArray,List.set_cons_zero,List.set_cons_succ]
   refine wpAnyH_ready (rs:=[8,13]) (by as_aux_lemma => kernel_rfl) (by simp) ?_
   refine AllReadyH.cons rfl (fun Kx hK => ?_) (AllReadyH.cons rfl (fun Kx hK => ?_) (AllReadyH.nil))
   ·go_simp
    refine (rpbound_v HBD _).mono ?_
    rintro e z2 ⟨rfl,bz2⟩
    have K2:=hZq (below2Z K1.out bz2)
    have D2:=hZq (heldB_up K2.out D0.out)
    clear bz2
    go_wp2_with fail
    refine hK.out _ _ ?_ (fun hHeld2 => ?_)
    ·exact D2.out
    clear hK Kx hHeld
    have hHeld:=hHeld2
    clear hHeld2
    try simp only [Act.put,List.setIfInBounds_toArray,List.set_cons_zero,List.set_cons_succ]
    refine tkZ 11 ?_
    refine wpAnyH_ready (rs:=[12,13]) (by as_aux_lemma => kernel_rfl) (by simp) ?_
    refine AllReadyH.cons rfl (fun Kx hK => ?_) (AllReadyH.cons rfl (fun Kx hK => ?_) (AllReadyH.nil))
    ·go_simp
     refine (rpsettle (HV.out.later (K2.out)) (HC.out.later (K2.out)) (HT.out.later (K2.out)) s1 s2 s3 s4 s5 ca cb cd ce seq tok at' dg now nn (bd+rounds) la sn oo (by omega) (by omega) HA).mono ?_
     rintro e z3 ⟨u,tv,rfl,hU,hT,bz3⟩
     have K3:=hZq (below2Z K2.out bz3)
     have D3:=hZq (heldB_up K3.out D0.out)
     obtain⟨xaua,xauc,rfl,-⟩:=hU.open'
     obtain⟨xata,xatc,rfl,-⟩:=hT.open'
     have QX:=hZq hU
     have TX:=hZq hT
     clear hU hT
     clear bz3
     go_wp2_with fail
     refine hK.out _ _ ?_ (fun hHeld2 => ?_)
     ·exact D3.out
     clear hK Kx hHeld
     have hHeld:=hHeld2
     clear hHeld2
     try simp only [Act.put,List.setIfInBounds_toArray,List.set_cons_zero,List.set_cons_succ]
     refine wpAnyH_ready (rs:=[13]) (by as_aux_lemma => kernel_rfl) (by simp) ?_
     refine AllReadyH.cons rfl (fun Kx hK => ?_) AllReadyH.nil
     go_simp
     refine hK.out _ _ ?_ (fun hHeld2 => ?_)
     ·exact heldB_up (below2Z K3.out (bl_newZ _ _)) D0.out
     clear hK Kx hHeld
     have hHeld:=hHeld2
     clear hHeld2
     try simp only [Act.put,List.setIfInBounds_toArray,List.set_cons_zero,List.set_cons_succ]
     have bz4:=bl_newZ z3 (.cells #[.int .i64 0,.slice none 0 0,.bool false,.int .i64 0,.int .i64 0,.bool false,.int .i64 0,.slice none 0 0,.int .i64 0,.bool false] 41)
     have K4:=hZq (below2Z K3.out bz4)
     have D4:=hZq (heldB_up K4.out D0.out)
     have nz4:=hZq ((MapKept.heap_alloc z3 (.cells #[.int .i64 0,.slice none 0 0,.bool false,.int .i64 0,.int .i64 0,.bool false,.int .i64 0,.slice none 0 0,.int .i64 0,.bool false] 41)).1)
     have hB4:w8.heap.size≤z3.heap.size:=(K3.out).size
     replace QX:=hZq (Chgs.later (QX.out) bz4)
     replace TX:=hZq (Tab.later (TX.out) bz4)
     clear bz4
     generalize z3.alloc (.cells #[.int .i64 0,.slice none 0 0,.bool false,.int .i64 0,.int .i64 0,.bool false,.int .i64 0,.slice none 0 0,.int .i64 0,.bool false] 41)=z4 at K4 D4 nz4 QX TX hHeld ⊢
     generalize z3.heap.size=B4 at nz4 hB4  ⊢
     obtain⟨⟨r0,r1,r2,r3,r4,r5,r6,r7,r8,r9⟩,⟨g0,g1,g2,g3,g4,g5,g6,g7,g8,g9⟩⟩:=blk10 nz4.out
     refine wpAnyH_ready (rs:=[14]) (by as_aux_lemma => kernel_rfl) (by simp) ?_
     refine AllReadyH.cons rfl (fun Kx hK => ?_) AllReadyH.nil
     go_simp
     clear r0 r1 r2 r3 r4 r5 r6 r7 r8 r9 g0 g1 g2 g3 g4 g5 g6 g7 g8 g9
     have YB:=hZq (stN10_heap nz4.out (.int .i64 xas) (.slice xaua xaq.length xauc) (.bool xal) (.int .i64 xat) (.int .i64 xaa) (.bool xan) (.int .i64 xad) (.slice xata xac.length xatc) (.int .i64 xann) (.bool false))
     have KE:=hZq (stN10_below (K4.out) hB4 (.int .i64 xas) (.slice xaua xaq.length xauc) (.bool xal) (.int .i64 xat) (.int .i64 xaa) (.bool xan) (.int .i64 xad) (.slice xata xac.length xatc) (.int .i64 xann) (.bool false))
     have QZ:=hZq (QX.out.nostr (noTx_str (l:=[.int .i64 0,.slice none 0 0,.bool false,.int .i64 0,.int .i64 0,.bool false,.int .i64 0,.slice none 0 0,.int .i64 0,.bool false]) nz4.out rfl) (fun k hk => stN10_far z4 B4 (.int .i64 xas) (.slice xaua xaq.length xauc) (.bool xal) (.int .i64 xat) (.int .i64 xaa) (.bool xan) (.int .i64 xad) (.slice xata xac.length xatc) (.int .i64 xann) (.bool false) hk) (stN10_size z4 B4 (.int .i64 xas) (.slice xaua xaq.length xauc) (.bool xal) (.int .i64 xat) (.int .i64 xaa) (.bool xan) (.int .i64 xad) (.slice xata xac.length xatc) (.int .i64 xann) (.bool false)))
     have TZ:=hZq (TX.out.nostr (noTx_str (l:=[.int .i64 0,.slice none 0 0,.bool false,.int .i64 0,.int .i64 0,.bool false,.int .i64 0,.slice none 0 0,.int .i64 0,.bool false]) nz4.out rfl) (fun k hk => stN10_far z4 B4 (.int .i64 xas) (.slice xaua xaq.length xauc) (.bool xal) (.int .i64 xat) (.int .i64 xaa) (.bool xan) (.int .i64 xad) (.slice xata xac.length xatc) (.int .i64 xann) (.bool false) hk) (stN10_size z4 B4 (.int .i64 xas) (.slice xaua xaq.length xauc) (.bool xal) (.int .i64 xat) (.int .i64 xaa) (.bool xan) (.int .i64 xad) (.slice xata xac.length xatc) (.int .i64 xann) (.bool false)))
     refine hK.out _ _ ?_ (fun hHeld2 => ?_)
     ·exact heldB_up KE.out D0.out
     clear hK Kx hHeld
     have hHeld:=hHeld2
     clear hHeld2
     refine wpAnyH_done (by kernel_rfl) ?_ _
     go_wp2_with fail
     go_meet
     exact⟨B4,xaua,xauc,xata,xatc,rfl,YB,QZ,TZ,KE⟩
    ·go_simp
     refine hK.out _ _ ?_ (fun hHeld2 => ?_)
     ·exact heldB_up (below2Z K2.out (bl_newZ _ _)) D0.out
     clear hK Kx hHeld
     have hHeld:=hHeld2
     clear hHeld2
     try simp only [Act.put,List.setIfInBounds_toArray,List.set_cons_zero,List.set_cons_succ]
     have bz6:=bl_newZ z2 (.cells #[.int .i64 0,.slice none 0 0,.bool false,.int .i64 0,.int .i64 0,.bool false,.int .i64 0,.slice none 0 0,.int .i64 0,.bool false] 41)
     have K6:=hZq (below2Z K2.out bz6)
     have D6:=hZq (heldB_up K6.out D0.out)
     have nz6:=hZq ((MapKept.heap_alloc z2 (.cells #[.int .i64 0,.slice none 0 0,.bool false,.int .i64 0,.int .i64 0,.bool false,.int .i64 0,.slice none 0 0,.int .i64 0,.bool false] 41)).1)
     have hB6:w8.heap.size≤z2.heap.size:=(K2.out).size
     clear bz6
     generalize z2.alloc (.cells #[.int .i64 0,.slice none 0 0,.bool false,.int .i64 0,.int .i64 0,.bool false,.int .i64 0,.slice none 0 0,.int .i64 0,.bool false] 41)=z6 at K6 D6 nz6 hHeld ⊢
     generalize z2.heap.size=B6 at nz6 hB6  ⊢
     refine wpAnyH_ready (rs:=[12]) (by as_aux_lemma => kernel_rfl) (by simp) ?_
     refine AllReadyH.cons rfl (fun Kx hK => ?_) AllReadyH.nil
     go_simp
     refine (rpsettle (HV.out.later (K6.out)) (HC.out.later (K6.out)) (HT.out.later (K6.out)) s1 s2 s3 s4 s5 ca cb cd ce seq tok at' dg now nn (bd+rounds) la sn oo (by omega) (by omega) HA).mono ?_
     rintro e z7 ⟨u,tv,rfl,hU,hT,bz7⟩
     have K7:=hZq (below2Z K6.out bz7)
     have D7:=hZq (heldB_up K7.out D0.out)
     replace nz6:=hZq (((bz7).block _ (Array.getElem?_eq_some_iff.1 (nz6.out)).1).trans (nz6.out))
     obtain⟨xaua,xauc,rfl,-⟩:=hU.open'
     obtain⟨xata,xatc,rfl,-⟩:=hT.open'
     have QX:=hZq hU
     have TX:=hZq hT
     clear hU hT
     clear bz7
     go_wp2_with fail
     refine hK.out _ _ ?_ (fun hHeld2 => ?_)
     ·exact D7.out
     clear hK Kx hHeld
     have hHeld:=hHeld2
     clear hHeld2
     try simp only [Act.put,List.setIfInBounds_toArray,List.set_cons_zero,List.set_cons_succ]
     obtain⟨⟨r0,r1,r2,r3,r4,r5,r6,r7,r8,r9⟩,⟨g0,g1,g2,g3,g4,g5,g6,g7,g8,g9⟩⟩:=blk10 nz6.out
     refine wpAnyH_ready (rs:=[14]) (by as_aux_lemma => kernel_rfl) (by simp) ?_
     refine AllReadyH.cons rfl (fun Kx hK => ?_) AllReadyH.nil
     go_simp
     clear r0 r1 r2 r3 r4 r5 r6 r7 r8 r9 g0 g1 g2 g3 g4 g5 g6 g7 g8 g9
     have YB:=hZq (stN10_heap nz6.out (.int .i64 xas) (.slice xaua xaq.length xauc) (.bool xal) (.int .i64 xat) (.int .i64 xaa) (.bool xan) (.int .i64 xad) (.slice xata xac.length xatc) (.int .i64 xann) (.bool false))
     have KE:=hZq (stN10_below (K7.out) hB6 (.int .i64 xas) (.slice xaua xaq.length xauc) (.bool xal) (.int .i64 xat) (.int .i64 xaa) (.bool xan) (.int .i64 xad) (.slice xata xac.length xatc) (.int .i64 xann) (.bool false))
     have QZ:=hZq (QX.out.nostr (noTx_str (l:=[.int .i64 0,.slice none 0 0,.bool false,.int .i64 0,.int .i64 0,.bool false,.int .i64 0,.slice none 0 0,.int .i64 0,.bool false]) nz6.out rfl) (fun k hk => stN10_far z7 B6 (.int .i64 xas) (.slice xaua xaq.length xauc) (.bool xal) (.int .i64 xat) (.int .i64 xaa) (.bool xan) (.int .i64 xad) (.slice xata xac.length xatc) (.int .i64 xann) (.bool false) hk) (stN10_size z7 B6 (.int .i64 xas) (.slice xaua xaq.length xauc) (.bool xal) (.int .i64 xat) (.int .i64 xaa) (.bool xan) (.int .i64 xad) (.slice xata xac.length xatc) (.int .i64 xann) (.bool false)))
     have TZ:=hZq (TX.out.nostr (noTx_str (l:=[.int .i64 0,.slice none 0 0,.bool false,.int .i64 0,.int .i64 0,.bool false,.int .i64 0,.slice none 0 0,.int .i64 0,.bool false]) nz6.out rfl) (fun k hk => stN10_far z7 B6 (.int .i64 xas) (.slice xaua xaq.length xauc) (.bool xal) (.int .i64 xat) (.int .i64 xaa) (.bool xan) (.int .i64 xad) (.slice xata xac.length xatc) (.int .i64 xann) (.bool false) hk) (stN10_size z7 B6 (.int .i64 xas) (.slice xaua xaq.length xauc) (.bool xal) (.int .i64 xat) (.int .i64 xaa) (.bool xan) (.int .i64 xad) (.slice xata xac.length xatc) (.int .i64 xann) (.bool false)))
     refine hK.out _ _ ?_ (fun hHeld2 => ?_)
     ·exact heldB_up KE.out D0.out
     clear hK Kx hHeld
     have hHeld:=hHeld2
     clear hHeld2
     refine wpAnyH_done (by kernel_rfl) ?_ _
     go_wp2_with fail
     go_meet
     exact⟨B6,xaua,xauc,xata,xatc,rfl,YB,QZ,TZ,KE⟩
   ·go_simp
    refine hK.out _ _ ?_ (fun hHeld2 => ?_)
    ·exact heldB_up (below2Z K1.out (bl_newZ _ _)) D0.out
    clear hK Kx hHeld
    have hHeld:=hHeld2
    clear hHeld2
    try simp only [Act.put,List.setIfInBounds_toArray,List.set_cons_zero,List.set_cons_succ]
    have bz9:=bl_newZ z1 (.cells #[.int .i64 0,.slice none 0 0,.bool false,.int .i64 0,.int .i64 0,.bool false,.int .i64 0,.slice none 0 0,.int .i64 0,.bool false] 41)
    have K9:=hZq (below2Z K1.out bz9)
    have D9:=hZq (heldB_up K9.out D0.out)
    have nz9:=hZq ((MapKept.heap_alloc z1 (.cells #[.int .i64 0,.slice none 0 0,.bool false,.int .i64 0,.int .i64 0,.bool false,.int .i64 0,.slice none 0 0,.int .i64 0,.bool false] 41)).1)
    have hB9:w8.heap.size≤z1.heap.size:=(K1.out).size
    clear bz9
    generalize z1.alloc (.cells #[.int .i64 0,.slice none 0 0,.bool false,.int .i64 0,.int .i64 0,.bool false,.int .i64 0,.slice none 0 0,.int .i64 0,.bool false] 41)=z9 at K9 D9 nz9 hHeld ⊢
    generalize z1.heap.size=B9 at nz9 hB9  ⊢
    refine wpAnyH_ready (rs:=[8]) (by as_aux_lemma => kernel_rfl) (by simp) ?_
    refine AllReadyH.cons rfl (fun Kx hK => ?_) AllReadyH.nil
    go_simp
    refine (rpbound_v HBD _).mono ?_
    rintro e z10 ⟨rfl,bz10⟩
    have K10:=hZq (below2Z K9.out bz10)
    have D10:=hZq (heldB_up K10.out D0.out)
    replace nz9:=hZq (((bz10).block _ (Array.getElem?_eq_some_iff.1 (nz9.out)).1).trans (nz9.out))
    clear bz10
    go_wp2_with fail
    refine hK.out _ _ ?_ (fun hHeld2 => ?_)
    ·exact D10.out
    clear hK Kx hHeld
    have hHeld:=hHeld2
    clear hHeld2
    try simp only [Act.put,List.setIfInBounds_toArray,List.set_cons_zero,List.set_cons_succ]
    refine tkZ 11 ?_
    refine wpAnyH_ready (rs:=[12]) (by as_aux_lemma => kernel_rfl) (by simp) ?_
    refine AllReadyH.cons rfl (fun Kx hK => ?_) AllReadyH.nil
    go_simp
    refine (rpsettle (HV.out.later (K10.out)) (HC.out.later (K10.out)) (HT.out.later (K10.out)) s1 s2 s3 s4 s5 ca cb cd ce seq tok at' dg now nn (bd+rounds) la sn oo (by omega) (by omega) HA).mono ?_
    rintro e z11 ⟨u,tv,rfl,hU,hT,bz11⟩
    have K11:=hZq (below2Z K10.out bz11)
    have D11:=hZq (heldB_up K11.out D0.out)
    replace nz9:=hZq (((bz11).block _ (Array.getElem?_eq_some_iff.1 (nz9.out)).1).trans (nz9.out))
    obtain⟨xaua,xauc,rfl,-⟩:=hU.open'
    obtain⟨xata,xatc,rfl,-⟩:=hT.open'
    have QX:=hZq hU
    have TX:=hZq hT
    clear hU hT
    clear bz11
    go_wp2_with fail
    refine hK.out _ _ ?_ (fun hHeld2 => ?_)
    ·exact D11.out
    clear hK Kx hHeld
    have hHeld:=hHeld2
    clear hHeld2
    try simp only [Act.put,List.setIfInBounds_toArray,List.set_cons_zero,List.set_cons_succ]
    obtain⟨⟨r0,r1,r2,r3,r4,r5,r6,r7,r8,r9⟩,⟨g0,g1,g2,g3,g4,g5,g6,g7,g8,g9⟩⟩:=blk10 nz9.out
    refine wpAnyH_ready (rs:=[14]) (by as_aux_lemma => kernel_rfl) (by simp) ?_
    refine AllReadyH.cons rfl (fun Kx hK => ?_) AllReadyH.nil
    go_simp
    clear r0 r1 r2 r3 r4 r5 r6 r7 r8 r9 g0 g1 g2 g3 g4 g5 g6 g7 g8 g9
    have YB:=hZq (stN10_heap nz9.out (.int .i64 xas) (.slice xaua xaq.length xauc) (.bool xal) (.int .i64 xat) (.int .i64 xaa) (.bool xan) (.int .i64 xad) (.slice xata xac.length xatc) (.int .i64 xann) (.bool false))
    have KE:=hZq (stN10_below (K11.out) hB9 (.int .i64 xas) (.slice xaua xaq.length xauc) (.bool xal) (.int .i64 xat) (.int .i64 xaa) (.bool xan) (.int .i64 xad) (.slice xata xac.length xatc) (.int .i64 xann) (.bool false))
    have QZ:=hZq (QX.out.nostr (noTx_str (l:=[.int .i64 0,.slice none 0 0,.bool false,.int .i64 0,.int .i64 0,.bool false,.int .i64 0,.slice none 0 0,.int .i64 0,.bool false]) nz9.out rfl) (fun k hk => stN10_far z11 B9 (.int .i64 xas) (.slice xaua xaq.length xauc) (.bool xal) (.int .i64 xat) (.int .i64 xaa) (.bool xan) (.int .i64 xad) (.slice xata xac.length xatc) (.int .i64 xann) (.bool false) hk) (stN10_size z11 B9 (.int .i64 xas) (.slice xaua xaq.length xauc) (.bool xal) (.int .i64 xat) (.int .i64 xaa) (.bool xan) (.int .i64 xad) (.slice xata xac.length xatc) (.int .i64 xann) (.bool false)))
    have TZ:=hZq (TX.out.nostr (noTx_str (l:=[.int .i64 0,.slice none 0 0,.bool false,.int .i64 0,.int .i64 0,.bool false,.int .i64 0,.slice none 0 0,.int .i64 0,.bool false]) nz9.out rfl) (fun k hk => stN10_far z11 B9 (.int .i64 xas) (.slice xaua xaq.length xauc) (.bool xal) (.int .i64 xat) (.int .i64 xaa) (.bool xan) (.int .i64 xad) (.slice xata xac.length xatc) (.int .i64 xann) (.bool false) hk) (stN10_size z11 B9 (.int .i64 xas) (.slice xaua xaq.length xauc) (.bool xal) (.int .i64 xat) (.int .i64 xaa) (.bool xan) (.int .i64 xad) (.slice xata xac.length xatc) (.int .i64 xann) (.bool false)))
    refine hK.out _ _ ?_ (fun hHeld2 => ?_)
    ·exact heldB_up KE.out D0.out
    clear hK Kx hHeld
    have hHeld:=hHeld2
    clear hHeld2
    refine wpAnyH_done (by kernel_rfl) ?_ _
    go_wp2_with fail
    go_meet
    exact⟨B9,xaua,xauc,xata,xatc,rfl,YB,QZ,TZ,KE⟩
  ·go_simp
   refine hK.out _ _ ?_ (fun hHeld2 => ?_)
   ·exact heldB_up (below2Z K0.out (bl_newZ _ _)) D0.out
   clear hK Kx hHeld
   have hHeld:=hHeld2
   clear hHeld2
   try simp only [Act.put,List.setIfInBounds_toArray,List.set_cons_zero,List.set_cons_succ]
   have bz13:=bl_newZ z0 (.cells #[.int .i64 0,.slice none 0 0,.bool false,.int .i64 0,.int .i64 0,.bool false,.int .i64 0,.slice none 0 0,.int .i64 0,.bool false] 41)
   have K13:=hZq (below2Z K0.out bz13)
   have D13:=hZq (heldB_up K13.out D0.out)
   have nz13:=hZq ((MapKept.heap_alloc z0 (.cells #[.int .i64 0,.slice none 0 0,.bool false,.int .i64 0,.int .i64 0,.bool false,.int .i64 0,.slice none 0 0,.int .i64 0,.bool false] 41)).1)
   have hB13:w8.heap.size≤z0.heap.size:=(K0.out).size
   clear bz13
   generalize z0.alloc (.cells #[.int .i64 0,.slice none 0 0,.bool false,.int .i64 0,.int .i64 0,.bool false,.int .i64 0,.slice none 0 0,.int .i64 0,.bool false] 41)=z13 at K13 D13 nz13 hHeld ⊢
   generalize z0.heap.size=B13 at nz13 hB13  ⊢
   refine wpAnyH_ready (rs:=[2]) (by as_aux_lemma => kernel_rfl) (by simp) ?_
   refine AllReadyH.cons rfl (fun Kx hK => ?_) AllReadyH.nil
   go_simp
   refine (rpmine (HV.out.later (K13.out)) (HC.out.later (K13.out)) seq tok at' dg nn la sn oo).mono ?_
   rintro e z14 ⟨rfl,bz14⟩
   have K14:=hZq (below2Z K13.out bz14)
   have D14:=hZq (heldB_up K14.out D0.out)
   replace nz13:=hZq (((bz14).block _ (Array.getElem?_eq_some_iff.1 (nz13.out)).1).trans (nz13.out))
   clear bz14
   go_wp2_with fail
   refine hK.out _ _ ?_ (fun hHeld2 => ?_)
   ·exact D14.out
   clear hK Kx hHeld
   have hHeld:=hHeld2
   clear hHeld2
   try simp only [Act.put,List.setIfInBounds_toArray,List.set_cons_zero,List.set_cons_succ]
   refine wpAnyH_ready (rs:=[8]) (by as_aux_lemma => kernel_rfl) (by simp) ?_
   refine AllReadyH.cons rfl (fun Kx hK => ?_) AllReadyH.nil
   go_simp
   refine (rpbound_v HBD _).mono ?_
   rintro e z15 ⟨rfl,bz15⟩
   have K15:=hZq (below2Z K14.out bz15)
   have D15:=hZq (heldB_up K15.out D0.out)
   replace nz13:=hZq (((bz15).block _ (Array.getElem?_eq_some_iff.1 (nz13.out)).1).trans (nz13.out))
   clear bz15
   go_wp2_with fail
   refine hK.out _ _ ?_ (fun hHeld2 => ?_)
   ·exact D15.out
   clear hK Kx hHeld
   have hHeld:=hHeld2
   clear hHeld2
   try simp only [Act.put,List.setIfInBounds_toArray,List.set_cons_zero,List.set_cons_succ]
   refine tkZ 11 ?_
   refine wpAnyH_ready (rs:=[12]) (by as_aux_lemma => kernel_rfl) (by simp) ?_
   refine AllReadyH.cons rfl (fun Kx hK => ?_) AllReadyH.nil
   go_simp
   refine (rpsettle (HV.out.later (K15.out)) (HC.out.later (K15.out)) (HT.out.later (K15.out)) s1 s2 s3 s4 s5 ca cb cd ce seq tok at' dg now nn (bd+rounds) la sn oo (by omega) (by omega) HA).mono ?_
   rintro e z16 ⟨u,tv,rfl,hU,hT,bz16⟩
   have K16:=hZq (below2Z K15.out bz16)
   have D16:=hZq (heldB_up K16.out D0.out)
   replace nz13:=hZq (((bz16).block _ (Array.getElem?_eq_some_iff.1 (nz13.out)).1).trans (nz13.out))
   obtain⟨xaua,xauc,rfl,-⟩:=hU.open'
   obtain⟨xata,xatc,rfl,-⟩:=hT.open'
   have QX:=hZq hU
   have TX:=hZq hT
   clear hU hT
   clear bz16
   go_wp2_with fail
   refine hK.out _ _ ?_ (fun hHeld2 => ?_)
   ·exact D16.out
   clear hK Kx hHeld
   have hHeld:=hHeld2
   clear hHeld2
   try simp only [Act.put,List.setIfInBounds_toArray,List.set_cons_zero,List.set_cons_succ]
   obtain⟨⟨r0,r1,r2,r3,r4,r5,r6,r7,r8,r9⟩,⟨g0,g1,g2,g3,g4,g5,g6,g7,g8,g9⟩⟩:=blk10 nz13.out
   refine wpAnyH_ready (rs:=[14]) (by as_aux_lemma => kernel_rfl) (by simp) ?_
   refine AllReadyH.cons rfl (fun Kx hK => ?_) AllReadyH.nil
   go_simp
   clear r0 r1 r2 r3 r4 r5 r6 r7 r8 r9 g0 g1 g2 g3 g4 g5 g6 g7 g8 g9
   have YB:=hZq (stN10_heap nz13.out (.int .i64 xas) (.slice xaua xaq.length xauc) (.bool xal) (.int .i64 xat) (.int .i64 xaa) (.bool xan) (.int .i64 xad) (.slice xata xac.length xatc) (.int .i64 xann) (.bool false))
   have KE:=hZq (stN10_below (K16.out) hB13 (.int .i64 xas) (.slice xaua xaq.length xauc) (.bool xal) (.int .i64 xat) (.int .i64 xaa) (.bool xan) (.int .i64 xad) (.slice xata xac.length xatc) (.int .i64 xann) (.bool false))
   have QZ:=hZq (QX.out.nostr (noTx_str (l:=[.int .i64 0,.slice none 0 0,.bool false,.int .i64 0,.int .i64 0,.bool false,.int .i64 0,.slice none 0 0,.int .i64 0,.bool false]) nz13.out rfl) (fun k hk => stN10_far z16 B13 (.int .i64 xas) (.slice xaua xaq.length xauc) (.bool xal) (.int .i64 xat) (.int .i64 xaa) (.bool xan) (.int .i64 xad) (.slice xata xac.length xatc) (.int .i64 xann) (.bool false) hk) (stN10_size z16 B13 (.int .i64 xas) (.slice xaua xaq.length xauc) (.bool xal) (.int .i64 xat) (.int .i64 xaa) (.bool xan) (.int .i64 xad) (.slice xata xac.length xatc) (.int .i64 xann) (.bool false)))
   have TZ:=hZq (TX.out.nostr (noTx_str (l:=[.int .i64 0,.slice none 0 0,.bool false,.int .i64 0,.int .i64 0,.bool false,.int .i64 0,.slice none 0 0,.int .i64 0,.bool false]) nz13.out rfl) (fun k hk => stN10_far z16 B13 (.int .i64 xas) (.slice xaua xaq.length xauc) (.bool xal) (.int .i64 xat) (.int .i64 xaa) (.bool xan) (.int .i64 xad) (.slice xata xac.length xatc) (.int .i64 xann) (.bool false) hk) (stN10_size z16 B13 (.int .i64 xas) (.slice xaua xaq.length xauc) (.bool xal) (.int .i64 xat) (.int .i64 xaa) (.bool xan) (.int .i64 xad) (.slice xata xac.length xatc) (.int .i64 xann) (.bool false)))
   refine hK.out _ _ ?_ (fun hHeld2 => ?_)
   ·exact heldB_up KE.out D0.out
   clear hK Kx hHeld
   have hHeld:=hHeld2
   clear hHeld2
   refine wpAnyH_done (by kernel_rfl) ?_ _
   go_wp2_with fail
   go_meet
   exact⟨B13,xaua,xauc,xata,xatc,rfl,YB,QZ,TZ,KE⟩
 case rest =>
  obtain⟨Bxa,xaua,xauc,xata,xatc,rfl,LN,QN,TN,KB⟩:=hcut
  obtain⟨w9,hw9⟩ : ∃ X,X=wc:=⟨_,rfl⟩
  subst hw9
  replace GB:=hZq (upQ GB.out KB.out)
  replace XB:=hZq (upQ XB.out KB.out)
  replace VB:=hZq (upQ VB.out KB.out)
  replace HV:=hZq (HV.out.later KB.out)
  replace HC:=hZq (HC.out.later KB.out)
  replace HT:=hZq (HT.out.later KB.out)
  replace HB:=hZq (below2Z HB.out KB.out)
  clear KB
  have Sxa:=LN
  have Qxa:=QN
  have Txa:=TN
  clear LN QN TN
  go_upto_region 6 with fail
  obtain⟨BS,hBS⟩ : ∃ BS:List (Nat × List Value),BS=[(w.heap.size,[.int .i64 ca,.int .i64 cb,.int .i64 cd,.int .i64 ce]),(w.heap.size+1,[.int .i64 seq,.slice qa ql.length qc,.bool la,.int .i64 tok,.int .i64 at',.bool sn,.int .i64 dg,.slice ta ct.length tc,.int .i64 nn,.bool oo]),(w.heap.size+1+1,[.slice va view.length vc,.int .i64 now,.int .i64 rounds]),(Bxa,[.int .i64 xas,.slice xaua xaq.length xauc,.bool xal,.int .i64 xat,.int .i64 xaa,.bool xan,.int .i64 xad,.slice xata xac.length xatc,.int .i64 xann,.bool false])]:=⟨_,rfl⟩
  have D0:=hZq (show heldB w9 BS from by rw [hBS]; exact heldB_cons (cellsAt_block GB.out) (heldB_cons (cellsAt_block XB.out) (heldB_cons (cellsAt_block VB.out) (heldB_cons (cellsAt_block Sxa.out) (heldB_nil _)))))
  have hL:=heldB_at (b:=w.heap.size) (vs:=[.int .i64 ca,.int .i64 cb,.int .i64 cd,.int .i64 ce]) (bs:=BS) (by rw [hBS]; simp)
  have hq0:=hL 0 _ rfl
  have hq1:=hL 1 _ rfl
  have hq2:=hL 2 _ rfl
  have hq3:=hL 3 _ rfl
  clear hL
  have hL:=heldB_at (b:=w.heap.size+1) (vs:=[.int .i64 seq,.slice qa ql.length qc,.bool la,.int .i64 tok,.int .i64 at',.bool sn,.int .i64 dg,.slice ta ct.length tc,.int .i64 nn,.bool oo]) (bs:=BS) (by rw [hBS]; simp)
  have hq4:=hL 0 _ rfl
  have hq5:=hL 1 _ rfl
  have hq6:=hL 2 _ rfl
  have hq7:=hL 3 _ rfl
  have hq8:=hL 4 _ rfl
  have hq9:=hL 5 _ rfl
  have hq10:=hL 6 _ rfl
  have hq11:=hL 7 _ rfl
  have hq12:=hL 8 _ rfl
  have hq13:=hL 9 _ rfl
  clear hL
  have hL:=heldB_at (b:=w.heap.size+1+1) (vs:=[.slice va view.length vc,.int .i64 now,.int .i64 rounds]) (bs:=BS) (by rw [hBS]; simp)
  have hq14:=hL 0 _ rfl
  have hq15:=hL 1 _ rfl
  have hq16:=hL 2 _ rfl
  clear hL
  have hL:=heldB_at (b:=Bxa) (vs:=[.int .i64 xas,.slice xaua xaq.length xauc,.bool xal,.int .i64 xat,.int .i64 xaa,.bool xan,.int .i64 xad,.slice xata xac.length xatc,.int .i64 xann,.bool false]) (bs:=BS) (by rw [hBS]; simp)
  have hq17:=hL 0 _ rfl
  have hq18:=hL 1 _ rfl
  have hq19:=hL 2 _ rfl
  have hq20:=hL 3 _ rfl
  have hq21:=hL 4 _ rfl
  have hq22:=hL 5 _ rfl
  have hq23:=hL 6 _ rfl
  have hq24:=hL 7 _ rfl
  have hq25:=hL 8 _ rfl
  have hq26:=hL 9 _ rfl
  clear hL
  clear hBS
  have K0:Hid (Below w9.heap.size w9 w9.drew):=hZq (Below.refl _ _).drew
  refine wp_region_held_drew (S:=(fun X => heldB X BS)) (by kernel_rfl) ?_ (fun hHeld => ?_)
  ·exact heldB_up K0.out D0.out
  generalize w9.drew=z0 at K0 hHeld ⊢
  refine tkZ 0 ?_
  refine tkZ 2 ?_
  refine tkZ 3 ?_
  refine wpAnyH_ready (rs:=[1]) (by as_aux_lemma => kernel_rfl) (by simp) ?_
  refine AllReadyH.cons rfl (fun Kx hK => ?_) AllReadyH.nil
  go_simp
  refine (rpbound_v HBD _).mono ?_
  rintro e z4001 ⟨rfl,bz4001⟩
  have K4001:=hZq (below2Z K0.out bz4001)
  have D4001:=hZq (heldB_up K4001.out D0.out)
  clear bz4001
  go_wp2_with fail
  refine hK.out _ _ ?_ (fun hHeld2 => ?_)
  ·exact D4001.out
  clear hK Kx hHeld
  have hHeld:=hHeld2
  clear hHeld2
  try simp only [Act.put,List.setIfInBounds_toArray,List.set_cons_zero,List.set_cons_succ]
  refine tkZ 4 ?_
  refine tkZ 5 ?_
  refine tkZ 6 ?_
  refine tkZ 8 ?_
  refine tkZ 9 ?_
  refine tkZ 10 ?_
  refine tkZ 11 ?_
  refine tkZ 12 ?_
  refine tkZ 13 ?_
  refine wpAnyH_ready (rs:=[7]) (by as_aux_lemma => kernel_rfl) (by simp) ?_
  refine AllReadyH.cons rfl (fun Kx hK => ?_) AllReadyH.nil
  go_simp
  refine (rpbound_v HBD _).mono ?_
  rintro e z4002 ⟨rfl,bz4002⟩
  have K4002:=hZq (below2Z K4001.out bz4002)
  have D4002:=hZq (heldB_up K4002.out D0.out)
  clear bz4002
  go_wp2_with fail
  refine hK.out _ _ ?_ (fun hHeld2 => ?_)
  ·exact D4002.out
  clear hK Kx hHeld
  have hHeld:=hHeld2
  clear hHeld2
  try simp only [Act.put,List.setIfInBounds_toArray,List.set_cons_zero,List.set_cons_succ]
  refine tkZ 14 ?_
  refine tkZ 15 ?_
  refine wpAnyH_done (by kernel_rfl) ?_ _
  replace GB:=hZq (upQ GB.out K4002.out)
  replace XB:=hZq (upQ XB.out K4002.out)
  replace VB:=hZq (upQ VB.out K4002.out)
  replace Sxa:=hZq (upQ Sxa.out K4002.out)
  replace HV:=hZq (HV.out.later K4002.out)
  replace HC:=hZq (HC.out.later K4002.out)
  replace HT:=hZq (HT.out.later K4002.out)
  replace Qxa:=hZq (Chgs.later Qxa.out K4002.out)
  replace Txa:=hZq (Tab.later Txa.out K4002.out)
  replace HB:=hZq (below2Z HB.out K4002.out)
  try clear hHeld
  try clear D0
  try clear K0
  go_upto_region 8 with fail
  obtain⟨BS,hBS⟩ : ∃ BS:List (Nat × List Value),BS=[(w.heap.size,[.int .i64 ca,.int .i64 cb,.int .i64 cd,.int .i64 ce]),(w.heap.size+1,[.int .i64 seq,.slice qa ql.length qc,.bool la,.int .i64 tok,.int .i64 at',.bool sn,.int .i64 dg,.slice ta ct.length tc,.int .i64 nn,.bool oo]),(w.heap.size+1+1,[.slice va view.length vc,.int .i64 now,.int .i64 rounds]),(Bxa,[.int .i64 xas,.slice xaua xaq.length xauc,.bool xal,.int .i64 xat,.int .i64 xaa,.bool xan,.int .i64 xad,.slice xata xac.length xatc,.int .i64 xann,.bool false])]:=⟨_,rfl⟩
  have D0:=hZq (show heldB z4002 BS from by rw [hBS]; exact heldB_cons (cellsAt_block GB.out) (heldB_cons (cellsAt_block XB.out) (heldB_cons (cellsAt_block VB.out) (heldB_cons (cellsAt_block Sxa.out) (heldB_nil _)))))
  have hL:=heldB_at (b:=w.heap.size) (vs:=[.int .i64 ca,.int .i64 cb,.int .i64 cd,.int .i64 ce]) (bs:=BS) (by rw [hBS]; simp)
  have hq0:=hL 0 _ rfl
  have hq1:=hL 1 _ rfl
  have hq2:=hL 2 _ rfl
  have hq3:=hL 3 _ rfl
  clear hL
  have hL:=heldB_at (b:=w.heap.size+1) (vs:=[.int .i64 seq,.slice qa ql.length qc,.bool la,.int .i64 tok,.int .i64 at',.bool sn,.int .i64 dg,.slice ta ct.length tc,.int .i64 nn,.bool oo]) (bs:=BS) (by rw [hBS]; simp)
  have hq4:=hL 0 _ rfl
  have hq5:=hL 1 _ rfl
  have hq6:=hL 2 _ rfl
  have hq7:=hL 3 _ rfl
  have hq8:=hL 4 _ rfl
  have hq9:=hL 5 _ rfl
  have hq10:=hL 6 _ rfl
  have hq11:=hL 7 _ rfl
  have hq12:=hL 8 _ rfl
  have hq13:=hL 9 _ rfl
  clear hL
  have hL:=heldB_at (b:=w.heap.size+1+1) (vs:=[.slice va view.length vc,.int .i64 now,.int .i64 rounds]) (bs:=BS) (by rw [hBS]; simp)
  have hq14:=hL 0 _ rfl
  have hq15:=hL 1 _ rfl
  have hq16:=hL 2 _ rfl
  clear hL
  have hL:=heldB_at (b:=Bxa) (vs:=[.int .i64 xas,.slice xaua xaq.length xauc,.bool xal,.int .i64 xat,.int .i64 xaa,.bool xan,.int .i64 xad,.slice xata xac.length xatc,.int .i64 xann,.bool false]) (bs:=BS) (by rw [hBS]; simp)
  have hq17:=hL 0 _ rfl
  have hq18:=hL 1 _ rfl
  have hq19:=hL 2 _ rfl
  have hq20:=hL 3 _ rfl
  have hq21:=hL 4 _ rfl
  have hq22:=hL 5 _ rfl
  have hq23:=hL 6 _ rfl
  have hq24:=hL 7 _ rfl
  have hq25:=hL 8 _ rfl
  have hq26:=hL 9 _ rfl
  clear hL
  clear hBS
  have K0:Hid (Below z4002.heap.size z4002 z4002.drew):=hZq (Below.refl _ _).drew
  refine wp_region_held_drew (S:=(fun X => heldB X BS)) (by kernel_rfl) ?_ (fun hHeld => ?_)
  ·exact heldB_up K0.out D0.out
  generalize z4002.drew=z0 at K0 hHeld ⊢
  refine tkZ 0 ?_
  refine tkZ 1 ?_
  refine tkZ 2 ?_
  refine tkZ 3 ?_
  refine tkZ 4 ?_
  refine tkZ 5 ?_
  refine tkZ 6 ?_
  refine tkZ 7 ?_
  refine tkZ 8 ?_
  refine tkZ 9 ?_
  refine wpAnyH_ready (rs:=[10]) (by as_aux_lemma => kernel_rfl) (by simp) ?_
  refine AllReadyH.cons rfl (fun Kx hK => ?_) AllReadyH.nil
  go_simp
  refine (tsame_eq (Txa.out.later (K0.out)) (HT.out.later (K0.out)) HTS).mono ?_
  rintro e z5001 ⟨rfl,bz5001⟩
  have K5001:=hZq (below2Z K0.out bz5001)
  have D5001:=hZq (heldB_up K5001.out D0.out)
  clear bz5001
  go_wp2_with fail
  refine hK.out _ _ ?_ (fun hHeld2 => ?_)
  ·exact D5001.out
  clear hK Kx hHeld
  have hHeld:=hHeld2
  clear hHeld2
  try simp only [Act.put,List.setIfInBounds_toArray,List.set_cons_zero,List.set_cons_succ]
  refine tkZ 11 ?_
  refine tkZ 12 ?_
  refine tkZ 13 ?_
  refine skZ 14 ?_
  refine skZ 15 ?_
  refine skZ 16 ?_
  refine skZ 17 ?_
  refine skZ 18 ?_
  refine skZ 19 ?_
  refine skZ 20 ?_
  refine skZ 21 ?_
  refine tkZ 22 ?_
  refine wpAnyH_done (by kernel_rfl) ?_ _
  replace GB:=hZq (upQ GB.out K5001.out)
  replace XB:=hZq (upQ XB.out K5001.out)
  replace VB:=hZq (upQ VB.out K5001.out)
  replace Sxa:=hZq (upQ Sxa.out K5001.out)
  replace HV:=hZq (HV.out.later K5001.out)
  replace HC:=hZq (HC.out.later K5001.out)
  replace HT:=hZq (HT.out.later K5001.out)
  replace Qxa:=hZq (Chgs.later Qxa.out K5001.out)
  replace Txa:=hZq (Tab.later Txa.out K5001.out)
  replace HB:=hZq (below2Z HB.out K5001.out)
  try clear hHeld
  try clear D0
  try clear K0
  have VBk0:=ckZ VB.out 0 _ rfl
  go_wp2_with (with_reducible refine ldA aggSide _ rfl rfl (Bxa) 0 rfl Sxa.out [.int .i64 xas,.slice xaua xaq.length xauc,.bool xal,.int .i64 xat,.int .i64 xaa,.bool xan,.int .i64 xad,.slice xata xac.length xatc,.int .i64 xann,.bool false] rfl rfl ?_)
  clear VBk0
  refine (rpsync_any Qxa.out Txa.out HT.out HS).mono ?_
  rintro e w10 ⟨rfl,b10⟩
  replace GB:=hZq (upQ GB.out b10)
  replace XB:=hZq (upQ XB.out b10)
  replace VB:=hZq (upQ VB.out b10)
  replace Sxa:=hZq (upQ Sxa.out b10)
  replace HV:=hZq (HV.out.later b10)
  replace HC:=hZq (HC.out.later b10)
  replace HT:=hZq (HT.out.later b10)
  replace Qxa:=hZq (Chgs.later Qxa.out b10)
  replace Txa:=hZq (Tab.later Txa.out b10)
  replace HB:=hZq (below2Z HB.out b10)
  clear b10
  go_wp2_with fail
  refine (live20 _).mono ?_
  rintro e w11 ⟨rfl,b11⟩
  replace HB:=hZq (below2Z HB.out b11)
  clear b11
  go_wp2_with fail
  go_ret
  exact⟨rfl,HB.out⟩

theorem rse_e {w:World} {v cv vv:Value} {ql:List Chg} {ct view:List Row} (hv:Chgs w v ql) (hc:Tab w cv ct) (ht:Tab w vv view) (ca cb cd ce seq tok at' dg nn now rounds:Int) (la sn oo:Bool) (HF:Hid ((fewC ql 30 && fewT ct)=true)) (HG:Hid (fewT view=true)) (HL:Hid (lnMay ⟨ca,cb,cd,ce⟩ ⟨seq,⟨ql,la⟩,⟨tok,at'⟩,sn,dg⟩=true)) (HC0:Hid (clMay ⟨ct,nn,oo⟩=true)) (HD:Hid (diMay view=true)) (hb:¬ 40 < ce∧¬ rounds < 0∧¬ 20 < rounds∧¬ now < 0∧¬ 549755813888 < now∧¬ now < at'∧¬ now < dg∧¬ seq < nn∧¬ 549755813888 < seq) {xas xat xaa xad xann:Int} {xaq:List Chg} {xal xan:Bool} {xac:List Row} {bd:Int} (HBD:Hid (rpBound ⟨ca,cb,cd,ce⟩=bd)) (HBD2:Hid (0≤bd∧bd≤100∧ca≤bd∧bd=ca+ce+2∧0≤ca∧0≤ce)) (HA:Hid (rpSettle ⟨ca,cb,cd,ce⟩ view (min (bd+rounds) 3000).toNat now (⟨seq,⟨ql,la⟩,⟨tok,at'⟩,sn,dg⟩,(⟨ct,nn,oo⟩ : Cli))=(⟨xas,⟨xaq,xal⟩,⟨xat,xaa⟩,xan,xad⟩,(⟨xac,xann,false⟩ : Cli)))) (HTS:Hid (tSame xac view=false)) {z:Nat} (HZ:Hid (diSum xac=z)) (HZ2:Hid (diSum view=z)) :
  Calls Tryz.prog 5 #[.agg #[.int .i64 ca,.int .i64 cb,.int .i64 cd,.int .i64 ce],.agg #[.int .i64 seq,v,.bool la,.int .i64 tok,.int .i64 at',.bool sn,.int .i64 dg,cv,.int .i64 nn,.bool oo],.agg #[vv,.int .i64 now,.int .i64 rounds]] w fun e w' => e=.returned (.bool true)∧Below w.heap.size w w':=by
 obtain⟨s1,s2,s3,s4⟩:=few_short HF.out
 have s5:Short view:=fun r hr => by have:=((fewT_yes HG.out).2 r hr); omega
 obtain⟨k0,k1,k2,k3,k4,k5,k6,k7,k8⟩:=hb
 have hbd:=HBD2.out
 have w1:IntKind.i64.wrap (bd+rounds)=bd+rounds:=IntWalk.i64_in _ (by omega)
 have w2:IntKind.i64.wrap (ca+ce)=ca+ce:=IntWalk.i64_in _ (by omega)
 have w3:IntKind.i64.wrap (ca+ce+2)=ca+ce+2:=IntWalk.i64_in _ (by omega)
 have g8:decide (bd < ca)=false:=by rw [decide_eq_false_iff_not]; omega
 have g9:decide (ca+ce+2 < bd)=false:=by rw [decide_eq_false_iff_not]; omega
 clear hbd
 have gz:((z:Int) == (z:Int))=true:=beq_self_eq_true _
 have HSA:=hZq (settle_fit (cfg:=⟨ca,cb,cd,ce⟩) (view:=view) (min (bd+rounds) 3000).toNat (t:=now) (RpFit.mk (s:=(⟨seq,⟨ql,la⟩,⟨tok,at'⟩,sn,dg⟩,(⟨ct,nn,oo⟩ : Cli))) s1 s2 s3 s4))
 rw [HA.out] at HSA
 have gd65684:decide (40 < ce)=false:=by rw [decide_eq_false_iff_not]; omega
 have gd8808:decide (rounds < 0)=false:=by rw [decide_eq_false_iff_not]; omega
 have gd98808:decide (20 < rounds)=false:=by rw [decide_eq_false_iff_not]; omega
 have gd38891:decide (now < 0)=false:=by rw [decide_eq_false_iff_not]; omega
 have gd24117:decide (549755813888 < now)=false:=by rw [decide_eq_false_iff_not]; omega
 have gd21314:decide (now < at')=false:=by rw [decide_eq_false_iff_not]; omega
 have gd89340:decide (now < dg)=false:=by rw [decide_eq_false_iff_not]; omega
 have gd8476:decide (seq < nn)=false:=by rw [decide_eq_false_iff_not]; omega
 have gd38812:decide (549755813888 < seq)=false:=by rw [decide_eq_false_iff_not]; omega
 have HC1:=HC0
 clear HC0
 obtain⟨qa,qc,rfl,-⟩:=hv.open'
 obtain⟨ta,tc,rfl,-⟩:=hc.open'
 obtain⟨va,vc,rfl,-⟩:=ht.open'
 obtain⟨GB,XB,VB,HB⟩:=ent3 w (.cells #[.int .i64 ca,.int .i64 cb,.int .i64 cd,.int .i64 ce] 23) (.cells #[.int .i64 seq,.slice qa ql.length qc,.bool la,.int .i64 tok,.int .i64 at',.bool sn,.int .i64 dg,.slice ta ct.length tc,.int .i64 nn,.bool oo] 35) (.cells #[.slice va view.length vc,.int .i64 now,.int .i64 rounds] 37)
 have HV:=hZq ((hv).later HB.out)
 have HC:=hZq ((hc).later HB.out)
 have HT:=hZq ((ht).later HB.out)
 clear hv hc ht
 go_enter Tryz.func5,Tryz.ntmps5
 have VBk0:=ckZ VB.out 0 _ rfl
 have VBk1:=ckZ VB.out 1 _ rfl
 have VBk2:=ckZ VB.out 2 _ rfl
 have XBk0:=ckZ XB.out 0 _ rfl
 have XBk4:=ckZ XB.out 4 _ rfl
 have XBk5:=ckZ XB.out 5 _ rfl
 have XBk6:=ckZ XB.out 6 _ rfl
 have XBk8:=ckZ XB.out 8 _ rfl
 have XBk9:=ckZ XB.out 9 _ rfl
 have GBk3:=ckZ GB.out 3 _ rfl
 go_wp2_with (with_reducible refine ldA aggRSide _ rfl rfl (w.heap.size+1) 0 rfl XB.out [.int .i64 seq,.slice qa ql.length qc,.bool la,.int .i64 tok,.int .i64 at',.bool sn,.int .i64 dg,.slice ta ct.length tc,.int .i64 nn,.bool oo] rfl rfl ?_)
 clear VBk0 VBk1 VBk2 XBk0 XBk4 XBk5 XBk6 XBk8 XBk9 GBk3
 refine (rrpfew HV.out HC.out seq tok at' dg nn la sn oo HF).mono ?_
 rintro e w4 ⟨rfl,b4⟩
 replace GB:=hZq (upQ GB.out b4)
 replace XB:=hZq (upQ XB.out b4)
 replace VB:=hZq (upQ VB.out b4)
 replace HV:=hZq (HV.out.later b4)
 replace HC:=hZq (HC.out.later b4)
 replace HT:=hZq (HT.out.later b4)
 replace HB:=hZq (below2Z HB.out b4)
 clear b4
 have VBk0:=ckZ VB.out 0 _ rfl
 have VBk1:=ckZ VB.out 1 _ rfl
 have VBk2:=ckZ VB.out 2 _ rfl
 have XBk0:=ckZ XB.out 0 _ rfl
 have XBk4:=ckZ XB.out 4 _ rfl
 have XBk5:=ckZ XB.out 5 _ rfl
 have XBk6:=ckZ XB.out 6 _ rfl
 have XBk8:=ckZ XB.out 8 _ rfl
 have XBk9:=ckZ XB.out 9 _ rfl
 have GBk3:=ckZ GB.out 3 _ rfl
 go_wp2_with fail
 clear VBk0 VBk1 VBk2 XBk0 XBk4 XBk5 XBk6 XBk8 XBk9 GBk3
 refine (fewt_eqL HT.out HG).mono ?_
 rintro e w5 ⟨rfl,b5⟩
 replace GB:=hZq (upQ GB.out b5)
 replace XB:=hZq (upQ XB.out b5)
 replace VB:=hZq (upQ VB.out b5)
 replace HV:=hZq (HV.out.later b5)
 replace HC:=hZq (HC.out.later b5)
 replace HT:=hZq (HT.out.later b5)
 replace HB:=hZq (below2Z HB.out b5)
 clear b5
 have VBk0:=ckZ VB.out 0 _ rfl
 have VBk1:=ckZ VB.out 1 _ rfl
 have VBk2:=ckZ VB.out 2 _ rfl
 have XBk0:=ckZ XB.out 0 _ rfl
 have XBk4:=ckZ XB.out 4 _ rfl
 have XBk5:=ckZ XB.out 5 _ rfl
 have XBk6:=ckZ XB.out 6 _ rfl
 have XBk8:=ckZ XB.out 8 _ rfl
 have XBk9:=ckZ XB.out 9 _ rfl
 have GBk3:=ckZ GB.out 3 _ rfl
 go_wp2_with (first | (with_reducible refine ldG aggCfg _ rfl rfl (w.heap.size) 0 rfl GB.out [.int .i64 ca,.int .i64 cb,.int .i64 cd,.int .i64 ce] rfl rfl ?_) | (with_reducible refine ldG aggLink _ rfl rfl (w.heap.size+1) 0 rfl XB.out [.int .i64 seq,.slice qa ql.length qc,.bool la,.int .i64 tok,.int .i64 at',.bool sn,.int .i64 dg] rfl rfl ?_))
 clear VBk0 VBk1 VBk2 XBk0 XBk4 XBk5 XBk6 XBk8 XBk9 GBk3
 refine (rlmay_any HV.out s1 s2 la sn seq tok at' dg ca cb cd ce HL).mono ?_
 rintro e w6 ⟨rfl,b6⟩
 replace GB:=hZq (upQ GB.out b6)
 replace XB:=hZq (upQ XB.out b6)
 replace VB:=hZq (upQ VB.out b6)
 replace HV:=hZq (HV.out.later b6)
 replace HC:=hZq (HC.out.later b6)
 replace HT:=hZq (HT.out.later b6)
 replace HB:=hZq (below2Z HB.out b6)
 clear b6
 have VBk0:=ckZ VB.out 0 _ rfl
 have VBk1:=ckZ VB.out 1 _ rfl
 have VBk2:=ckZ VB.out 2 _ rfl
 have XBk0:=ckZ XB.out 0 _ rfl
 have XBk4:=ckZ XB.out 4 _ rfl
 have XBk5:=ckZ XB.out 5 _ rfl
 have XBk6:=ckZ XB.out 6 _ rfl
 have XBk8:=ckZ XB.out 8 _ rfl
 have XBk9:=ckZ XB.out 9 _ rfl
 have GBk3:=ckZ GB.out 3 _ rfl
 go_wp2_with (with_reducible refine ldG aggCli _ rfl rfl (w.heap.size+1) 7 rfl XB.out [.slice ta ct.length tc,.int .i64 nn,.bool oo] rfl rfl ?_)
 clear VBk0 VBk1 VBk2 XBk0 XBk4 XBk5 XBk6 XBk8 XBk9 GBk3
 refine (rclmay_eq HC.out s3 nn oo HC1).mono ?_
 rintro e w7 ⟨rfl,b7⟩
 replace GB:=hZq (upQ GB.out b7)
 replace XB:=hZq (upQ XB.out b7)
 replace VB:=hZq (upQ VB.out b7)
 replace HV:=hZq (HV.out.later b7)
 replace HC:=hZq (HC.out.later b7)
 replace HT:=hZq (HT.out.later b7)
 replace HB:=hZq (below2Z HB.out b7)
 clear b7
 have VBk0:=ckZ VB.out 0 _ rfl
 have VBk1:=ckZ VB.out 1 _ rfl
 have VBk2:=ckZ VB.out 2 _ rfl
 have XBk0:=ckZ XB.out 0 _ rfl
 have XBk4:=ckZ XB.out 4 _ rfl
 have XBk5:=ckZ XB.out 5 _ rfl
 have XBk6:=ckZ XB.out 6 _ rfl
 have XBk8:=ckZ XB.out 8 _ rfl
 have XBk9:=ckZ XB.out 9 _ rfl
 have GBk3:=ckZ GB.out 3 _ rfl
 go_wp2_with fail
 clear VBk0 VBk1 VBk2 XBk0 XBk4 XBk5 XBk6 XBk8 XBk9 GBk3
 refine (rdimay_eq HT.out s5 HD).mono ?_
 rintro e w8 ⟨rfl,b8⟩
 replace GB:=hZq (upQ GB.out b8)
 replace XB:=hZq (upQ XB.out b8)
 replace VB:=hZq (upQ VB.out b8)
 replace HV:=hZq (HV.out.later b8)
 replace HC:=hZq (HC.out.later b8)
 replace HT:=hZq (HT.out.later b8)
 replace HB:=hZq (below2Z HB.out b8)
 clear b8
 have VBk0:=ckZ VB.out 0 _ rfl
 have VBk1:=ckZ VB.out 1 _ rfl
 have VBk2:=ckZ VB.out 2 _ rfl
 have XBk0:=ckZ XB.out 0 _ rfl
 have XBk4:=ckZ XB.out 4 _ rfl
 have XBk5:=ckZ XB.out 5 _ rfl
 have XBk6:=ckZ XB.out 6 _ rfl
 have XBk8:=ckZ XB.out 8 _ rfl
 have XBk9:=ckZ XB.out 9 _ rfl
 have GBk3:=ckZ GB.out 3 _ rfl
 go_upto_region 5 with fail
 clear VBk0 VBk1 VBk2 XBk0 XBk4 XBk5 XBk6 XBk8 XBk9 GBk3
 go_upto_region 5 with fail
 go_cut [7] from 93 to 105 (fun pp wx => ∃ B xaua xauc xata xatc,pp=.pointer (some ⟨B,0,none⟩)∧Hid (wx.heap[B]?=some (.cells #[.int .i64 xas,.slice xaua xaq.length xauc,.bool xal,.int .i64 xat,.int .i64 xaa,.bool xan,.int .i64 xad,.slice xata xac.length xatc,.int .i64 xann,.bool false] 41 (0,0)))∧Hid (Chgs wx (.slice xaua xaq.length xauc) xaq)∧Hid (Tab wx (.slice xata xac.length xatc) xac)∧Hid (Below w8.heap.size w8 wx))
 case first =>
  obtain⟨BS,hBS⟩ : ∃ BS:List (Nat × List Value),BS=[(w.heap.size,[.int .i64 ca,.int .i64 cb,.int .i64 cd,.int .i64 ce]),(w.heap.size+1,[.int .i64 seq,.slice qa ql.length qc,.bool la,.int .i64 tok,.int .i64 at',.bool sn,.int .i64 dg,.slice ta ct.length tc,.int .i64 nn,.bool oo]),(w.heap.size+1+1,[.slice va view.length vc,.int .i64 now,.int .i64 rounds])]:=⟨_,rfl⟩
  have D0:=hZq (show heldB w8 BS from by rw [hBS]; exact heldB_cons (cellsAt_block GB.out) (heldB_cons (cellsAt_block XB.out) (heldB_cons (cellsAt_block VB.out) (heldB_nil _))))
  have hL:=heldB_at (b:=w.heap.size) (vs:=[.int .i64 ca,.int .i64 cb,.int .i64 cd,.int .i64 ce]) (bs:=BS) (by rw [hBS]; simp)
  have hq0:=hL 0 _ rfl
  have hq1:=hL 1 _ rfl
  have hq2:=hL 2 _ rfl
  have hq3:=hL 3 _ rfl
  clear hL
  have hL:=heldB_at (b:=w.heap.size+1) (vs:=[.int .i64 seq,.slice qa ql.length qc,.bool la,.int .i64 tok,.int .i64 at',.bool sn,.int .i64 dg,.slice ta ct.length tc,.int .i64 nn,.bool oo]) (bs:=BS) (by rw [hBS]; simp)
  have hq4:=hL 0 _ rfl
  have hq5:=hL 1 _ rfl
  have hq6:=hL 2 _ rfl
  have hq7:=hL 3 _ rfl
  have hq8:=hL 4 _ rfl
  have hq9:=hL 5 _ rfl
  have hq10:=hL 6 _ rfl
  have hq11:=hL 7 _ rfl
  have hq12:=hL 8 _ rfl
  have hq13:=hL 9 _ rfl
  clear hL
  have hL:=heldB_at (b:=w.heap.size+1+1) (vs:=[.slice va view.length vc,.int .i64 now,.int .i64 rounds]) (bs:=BS) (by rw [hBS]; simp)
  have hq14:=hL 0 _ rfl
  have hq15:=hL 1 _ rfl
  have hq16:=hL 2 _ rfl
  clear hL
  clear hBS
  have K0:Hid (Below w8.heap.size w8 w8.drew):=hZq (Below.refl _ _).drew
  refine wp_region_held_drew (S:=(fun X => heldB X BS)) (by kernel_rfl) ?_ (fun hHeld => ?_)
  ·exact heldB_up K0.out D0.out
  generalize w8.drew=z0 at K0 hHeld ⊢
  refine tkZ 0 ?_
  refine tkZ 1 ?_
  refine tkZ 3 ?_
  refine tkZ 4 ?_
  refine tkZ 5 ?_
  refine tkZ 6 ?_
  refine tkZ 7 ?_
  refine tkZ 9 ?_
  refine tkZ 10 ?_
  refine wpAnyH_ready (rs:=[2,13]) (by as_aux_lemma => kernel_rfl) (by simp) ?_
  refine AllReadyH.cons rfl (fun Kx hK => ?_) (AllReadyH.cons rfl (fun Kx hK => ?_) (AllReadyH.nil))
  ·go_simp
   refine (rpmine (HV.out.later (K0.out)) (HC.out.later (K0.out)) seq tok at' dg nn la sn oo).mono ?_
   rintro e z1 ⟨rfl,bz1⟩
   have K1:=hZq (below2Z K0.out bz1)
   have D1:=hZq (heldB_up K1.out D0.out)
   clear bz1
   go_wp2_with fail
   refine hK.out _ _ ?_ (fun hHeld2 => ?_)
   ·exact D1.out
   clear hK Kx hHeld
   have hHeld:=hHeld2
   clear hHeld2
   try simp only [Act.put,List.setIfInBounds_toArray,List.set_cons_zero,List.set_cons_succ]
   refine wpAnyH_ready (rs:=[8,13]) (by as_aux_lemma => kernel_rfl) (by simp) ?_
   refine AllReadyH.cons rfl (fun Kx hK => ?_) (AllReadyH.cons rfl (fun Kx hK => ?_) (AllReadyH.nil))
   ·go_simp
    refine (rpbound_v HBD _).mono ?_
    rintro e z2 ⟨rfl,bz2⟩
    have K2:=hZq (below2Z K1.out bz2)
    have D2:=hZq (heldB_up K2.out D0.out)
    clear bz2
    go_wp2_with fail
    refine hK.out _ _ ?_ (fun hHeld2 => ?_)
    ·exact D2.out
    clear hK Kx hHeld
    have hHeld:=hHeld2
    clear hHeld2
    try simp only [Act.put,List.setIfInBounds_toArray,List.set_cons_zero,List.set_cons_succ]
    refine tkZ 11 ?_
    refine wpAnyH_ready (rs:=[12,13]) (by as_aux_lemma => kernel_rfl) (by simp) ?_
    refine AllReadyH.cons rfl (fun Kx hK => ?_) (AllReadyH.cons rfl (fun Kx hK => ?_) (AllReadyH.nil))
    ·go_simp
     refine (rpsettle (HV.out.later (K2.out)) (HC.out.later (K2.out)) (HT.out.later (K2.out)) s1 s2 s3 s4 s5 ca cb cd ce seq tok at' dg now nn (bd+rounds) la sn oo (by omega) (by omega) HA).mono ?_
     rintro e z3 ⟨u,tv,rfl,hU,hT,bz3⟩
     have K3:=hZq (below2Z K2.out bz3)
     have D3:=hZq (heldB_up K3.out D0.out)
     obtain⟨xaua,xauc,rfl,-⟩:=hU.open'
     obtain⟨xata,xatc,rfl,-⟩:=hT.open'
     have QX:=hZq hU
     have TX:=hZq hT
     clear hU hT
     clear bz3
     go_wp2_with fail
     refine hK.out _ _ ?_ (fun hHeld2 => ?_)
     ·exact D3.out
     clear hK Kx hHeld
     have hHeld:=hHeld2
     clear hHeld2
     try simp only [Act.put,List.setIfInBounds_toArray,List.set_cons_zero,List.set_cons_succ]
     refine wpAnyH_ready (rs:=[13]) (by as_aux_lemma => kernel_rfl) (by simp) ?_
     refine AllReadyH.cons rfl (fun Kx hK => ?_) AllReadyH.nil
     go_simp
     refine hK.out _ _ ?_ (fun hHeld2 => ?_)
     ·exact heldB_up (below2Z K3.out (bl_newZ _ _)) D0.out
     clear hK Kx hHeld
     have hHeld:=hHeld2
     clear hHeld2
     try simp only [Act.put,List.setIfInBounds_toArray,List.set_cons_zero,List.set_cons_succ]
     have bz4:=bl_newZ z3 (.cells #[.int .i64 0,.slice none 0 0,.bool false,.int .i64 0,.int .i64 0,.bool false,.int .i64 0,.slice none 0 0,.int .i64 0,.bool false] 41)
     have K4:=hZq (below2Z K3.out bz4)
     have D4:=hZq (heldB_up K4.out D0.out)
     have nz4:=hZq ((MapKept.heap_alloc z3 (.cells #[.int .i64 0,.slice none 0 0,.bool false,.int .i64 0,.int .i64 0,.bool false,.int .i64 0,.slice none 0 0,.int .i64 0,.bool false] 41)).1)
     have hB4:w8.heap.size≤z3.heap.size:=(K3.out).size
     replace QX:=hZq (Chgs.later (QX.out) bz4)
     replace TX:=hZq (Tab.later (TX.out) bz4)
     clear bz4
     generalize z3.alloc (.cells #[.int .i64 0,.slice none 0 0,.bool false,.int .i64 0,.int .i64 0,.bool false,.int .i64 0,.slice none 0 0,.int .i64 0,.bool false] 41)=z4 at K4 D4 nz4 QX TX hHeld ⊢
     generalize z3.heap.size=B4 at nz4 hB4  ⊢
     obtain⟨⟨r0,r1,r2,r3,r4,r5,r6,r7,r8,r9⟩,⟨g0,g1,g2,g3,g4,g5,g6,g7,g8,g9⟩⟩:=blk10 nz4.out
     refine wpAnyH_ready (rs:=[14]) (by as_aux_lemma => kernel_rfl) (by simp) ?_
     refine AllReadyH.cons rfl (fun Kx hK => ?_) AllReadyH.nil
     go_simp
     clear r0 r1 r2 r3 r4 r5 r6 r7 r8 r9 g0 g1 g2 g3 g4 g5 g6 g7 g8 g9
     have YB:=hZq (stN10_heap nz4.out (.int .i64 xas) (.slice xaua xaq.length xauc) (.bool xal) (.int .i64 xat) (.int .i64 xaa) (.bool xan) (.int .i64 xad) (.slice xata xac.length xatc) (.int .i64 xann) (.bool false))
     have KE:=hZq (stN10_below (K4.out) hB4 (.int .i64 xas) (.slice xaua xaq.length xauc) (.bool xal) (.int .i64 xat) (.int .i64 xaa) (.bool xan) (.int .i64 xad) (.slice xata xac.length xatc) (.int .i64 xann) (.bool false))
     have QZ:=hZq (QX.out.nostr (noTx_str (l:=[.int .i64 0,.slice none 0 0,.bool false,.int .i64 0,.int .i64 0,.bool false,.int .i64 0,.slice none 0 0,.int .i64 0,.bool false]) nz4.out rfl) (fun k hk => stN10_far z4 B4 (.int .i64 xas) (.slice xaua xaq.length xauc) (.bool xal) (.int .i64 xat) (.int .i64 xaa) (.bool xan) (.int .i64 xad) (.slice xata xac.length xatc) (.int .i64 xann) (.bool false) hk) (stN10_size z4 B4 (.int .i64 xas) (.slice xaua xaq.length xauc) (.bool xal) (.int .i64 xat) (.int .i64 xaa) (.bool xan) (.int .i64 xad) (.slice xata xac.length xatc) (.int .i64 xann) (.bool false)))
     have TZ:=hZq (TX.out.nostr (noTx_str (l:=[.int .i64 0,.slice none 0 0,.bool false,.int .i64 0,.int .i64 0,.bool false,.int .i64 0,.slice none 0 0,.int .i64 0,.bool false]) nz4.out rfl) (fun k hk => stN10_far z4 B4 (.int .i64 xas) (.slice xaua xaq.length xauc) (.bool xal) (.int .i64 xat) (.int .i64 xaa) (.bool xan) (.int .i64 xad) (.slice xata xac.length xatc) (.int .i64 xann) (.bool false) hk) (stN10_size z4 B4 (.int .i64 xas) (.slice xaua xaq.length xauc) (.bool xal) (.int .i64 xat) (.int .i64 xaa) (.bool xan) (.int .i64 xad) (.slice xata xac.length xatc) (.int .i64 xann) (.bool false)))
     refine hK.out _ _ ?_ (fun hHeld2 => ?_)
     ·exact heldB_up KE.out D0.out
     clear hK Kx hHeld
     have hHeld:=hHeld2
     clear hHeld2
     refine wpAnyH_done (by kernel_rfl) ?_ _
     go_wp2_with fail
     go_meet
     exact⟨B4,xaua,xauc,xata,xatc,rfl,YB,QZ,TZ,KE⟩
    ·go_simp
     refine hK.out _ _ ?_ (fun hHeld2 => ?_)
     ·exact heldB_up (below2Z K2.out (bl_newZ _ _)) D0.out
     clear hK Kx hHeld
     have hHeld:=hHeld2
     clear hHeld2
     try simp only [Act.put,List.setIfInBounds_toArray,List.set_cons_zero,List.set_cons_succ]
     have bz6:=bl_newZ z2 (.cells #[.int .i64 0,.slice none 0 0,.bool false,.int .i64 0,.int .i64 0,.bool false,.int .i64 0,.slice none 0 0,.int .i64 0,.bool false] 41)
     have K6:=hZq (below2Z K2.out bz6)
     have D6:=hZq (heldB_up K6.out D0.out)
     have nz6:=hZq ((MapKept.heap_alloc z2 (.cells #[.int .i64 0,.slice none 0 0,.bool false,.int .i64 0,.int .i64 0,.bool false,.int .i64 0,.slice none 0 0,.int .i64 0,.bool false] 41)).1)
     have hB6:w8.heap.size≤z2.heap.size:=(K2.out).size
     clear bz6
     generalize z2.alloc (.cells #[.int .i64 0,.slice none 0 0,.bool false,.int .i64 0,.int .i64 0,.bool false,.int .i64 0,.slice none 0 0,.int .i64 0,.bool false] 41)=z6 at K6 D6 nz6 hHeld ⊢
     generalize z2.heap.size=B6 at nz6 hB6  ⊢
     refine wpAnyH_ready (rs:=[12]) (by as_aux_lemma => kernel_rfl) (by simp) ?_
     refine AllReadyH.cons rfl (fun Kx hK => ?_) AllReadyH.nil
     go_simp
     refine (rpsettle (HV.out.later (K6.out)) (HC.out.later (K6.out)) (HT.out.later (K6.out)) s1 s2 s3 s4 s5 ca cb cd ce seq tok at' dg now nn (bd+rounds) la sn oo (by omega) (by omega) HA).mono ?_
     rintro e z7 ⟨u,tv,rfl,hU,hT,bz7⟩
     have K7:=hZq (below2Z K6.out bz7)
     have D7:=hZq (heldB_up K7.out D0.out)
     replace nz6:=hZq (((bz7).block _ (Array.getElem?_eq_some_iff.1 (nz6.out)).1).trans (nz6.out))
     obtain⟨xaua,xauc,rfl,-⟩:=hU.open'
     obtain⟨xata,xatc,rfl,-⟩:=hT.open'
     have QX:=hZq hU
     have TX:=hZq hT
     clear hU hT
     clear bz7
     go_wp2_with fail
     refine hK.out _ _ ?_ (fun hHeld2 => ?_)
     ·exact D7.out
     clear hK Kx hHeld
     have hHeld:=hHeld2
     clear hHeld2
     try simp only [Act.put,List.setIfInBounds_toArray,List.set_cons_zero,List.set_cons_succ]
     obtain⟨⟨r0,r1,r2,r3,r4,r5,r6,r7,r8,r9⟩,⟨g0,g1,g2,g3,g4,g5,g6,g7,g8,g9⟩⟩:=blk10 nz6.out
     refine wpAnyH_ready (rs:=[14]) (by as_aux_lemma => kernel_rfl) (by simp) ?_
     refine AllReadyH.cons rfl (fun Kx hK => ?_) AllReadyH.nil
     go_simp
     clear r0 r1 r2 r3 r4 r5 r6 r7 r8 r9 g0 g1 g2 g3 g4 g5 g6 g7 g8 g9
     have YB:=hZq (stN10_heap nz6.out (.int .i64 xas) (.slice xaua xaq.length xauc) (.bool xal) (.int .i64 xat) (.int .i64 xaa) (.bool xan) (.int .i64 xad) (.slice xata xac.length xatc) (.int .i64 xann) (.bool false))
     have KE:=hZq (stN10_below (K7.out) hB6 (.int .i64 xas) (.slice xaua xaq.length xauc) (.bool xal) (.int .i64 xat) (.int .i64 xaa) (.bool xan) (.int .i64 xad) (.slice xata xac.length xatc) (.int .i64 xann) (.bool false))
     have QZ:=hZq (QX.out.nostr (noTx_str (l:=[.int .i64 0,.slice none 0 0,.bool false,.int .i64 0,.int .i64 0,.bool false,.int .i64 0,.slice none 0 0,.int .i64 0,.bool false]) nz6.out rfl) (fun k hk => stN10_far z7 B6 (.int .i64 xas) (.slice xaua xaq.length xauc) (.bool xal) (.int .i64 xat) (.int .i64 xaa) (.bool xan) (.int .i64 xad) (.slice xata xac.length xatc) (.int .i64 xann) (.bool false) hk) (stN10_size z7 B6 (.int .i64 xas) (.slice xaua xaq.length xauc) (.bool xal) (.int .i64 xat) (.int .i64 xaa) (.bool xan) (.int .i64 xad) (.slice xata xac.length xatc) (.int .i64 xann) (.bool false)))
     have TZ:=hZq (TX.out.nostr (noTx_str (l:=[.int .i64 0,.slice none 0 0,.bool false,.int .i64 0,.int .i64 0,.bool false,.int .i64 0,.slice none 0 0,.int .i64 0,.bool false]) nz6.out rfl) (fun k hk => stN10_far z7 B6 (.int .i64 xas) (.slice xaua xaq.length xauc) (.bool xal) (.int .i64 xat) (.int .i64 xaa) (.bool xan) (.int .i64 xad) (.slice xata xac.length xatc) (.int .i64 xann) (.bool false) hk) (stN10_size z7 B6 (.int .i64 xas) (.slice xaua xaq.length xauc) (.bool xal) (.int .i64 xat) (.int .i64 xaa) (.bool xan) (.int .i64 xad) (.slice xata xac.length xatc) (.int .i64 xann) (.bool false)))
     refine hK.out _ _ ?_ (fun hHeld2 => ?_)
     ·exact heldB_up KE.out D0.out
     clear hK Kx hHeld
     have hHeld:=hHeld2
     clear hHeld2
     refine wpAnyH_done (by kernel_rfl) ?_ _
     go_wp2_with fail
     go_meet
     exact⟨B6,xaua,xauc,xata,xatc,rfl,YB,QZ,TZ,KE⟩
   ·go_simp
    refine hK.out _ _ ?_ (fun hHeld2 => ?_)
    ·exact heldB_up (below2Z K1.out (bl_newZ _ _)) D0.out
    clear hK Kx hHeld
    have hHeld:=hHeld2
    clear hHeld2
    try simp only [Act.put,List.setIfInBounds_toArray,List.set_cons_zero,List.set_cons_succ]
    have bz9:=bl_newZ z1 (.cells #[.int .i64 0,.slice none 0 0,.bool false,.int .i64 0,.int .i64 0,.bool false,.int .i64 0,.slice none 0 0,.int .i64 0,.bool false] 41)
    have K9:=hZq (below2Z K1.out bz9)
    have D9:=hZq (heldB_up K9.out D0.out)
    have nz9:=hZq ((MapKept.heap_alloc z1 (.cells #[.int .i64 0,.slice none 0 0,.bool false,.int .i64 0,.int .i64 0,.bool false,.int .i64 0,.slice none 0 0,.int .i64 0,.bool false] 41)).1)
    have hB9:w8.heap.size≤z1.heap.size:=(K1.out).size
    clear bz9
    generalize z1.alloc (.cells #[.int .i64 0,.slice none 0 0,.bool false,.int .i64 0,.int .i64 0,.bool false,.int .i64 0,.slice none 0 0,.int .i64 0,.bool false] 41)=z9 at K9 D9 nz9 hHeld ⊢
    generalize z1.heap.size=B9 at nz9 hB9  ⊢
    refine wpAnyH_ready (rs:=[8]) (by as_aux_lemma => kernel_rfl) (by simp) ?_
    refine AllReadyH.cons rfl (fun Kx hK => ?_) AllReadyH.nil
    go_simp
    refine (rpbound_v HBD _).mono ?_
    rintro e z10 ⟨rfl,bz10⟩
    have K10:=hZq (below2Z K9.out bz10)
    have D10:=hZq (heldB_up K10.out D0.out)
    replace nz9:=hZq (((bz10).block _ (Array.getElem?_eq_some_iff.1 (nz9.out)).1).trans (nz9.out))
    clear bz10
    go_wp2_with fail
    refine hK.out _ _ ?_ (fun hHeld2 => ?_)
    ·exact D10.out
    clear hK Kx hHeld
    have hHeld:=hHeld2
    clear hHeld2
    try simp only [Act.put,List.setIfInBounds_toArray,List.set_cons_zero,List.set_cons_succ]
    refine tkZ 11 ?_
    refine wpAnyH_ready (rs:=[12]) (by as_aux_lemma => kernel_rfl) (by simp) ?_
    refine AllReadyH.cons rfl (fun Kx hK => ?_) AllReadyH.nil
    go_simp
    refine (rpsettle (HV.out.later (K10.out)) (HC.out.later (K10.out)) (HT.out.later (K10.out)) s1 s2 s3 s4 s5 ca cb cd ce seq tok at' dg now nn (bd+rounds) la sn oo (by omega) (by omega) HA).mono ?_
    rintro e z11 ⟨u,tv,rfl,hU,hT,bz11⟩
    have K11:=hZq (below2Z K10.out bz11)
    have D11:=hZq (heldB_up K11.out D0.out)
    replace nz9:=hZq (((bz11).block _ (Array.getElem?_eq_some_iff.1 (nz9.out)).1).trans (nz9.out))
    obtain⟨xaua,xauc,rfl,-⟩:=hU.open'
    obtain⟨xata,xatc,rfl,-⟩:=hT.open'
    have QX:=hZq hU
    have TX:=hZq hT
    clear hU hT
    clear bz11
    go_wp2_with fail
    refine hK.out _ _ ?_ (fun hHeld2 => ?_)
    ·exact D11.out
    clear hK Kx hHeld
    have hHeld:=hHeld2
    clear hHeld2
    try simp only [Act.put,List.setIfInBounds_toArray,List.set_cons_zero,List.set_cons_succ]
    obtain⟨⟨r0,r1,r2,r3,r4,r5,r6,r7,r8,r9⟩,⟨g0,g1,g2,g3,g4,g5,g6,g7,g8,g9⟩⟩:=blk10 nz9.out
    refine wpAnyH_ready (rs:=[14]) (by as_aux_lemma => kernel_rfl) (by simp) ?_
    refine AllReadyH.cons rfl (fun Kx hK => ?_) AllReadyH.nil
    go_simp
    clear r0 r1 r2 r3 r4 r5 r6 r7 r8 r9 g0 g1 g2 g3 g4 g5 g6 g7 g8 g9
    have YB:=hZq (stN10_heap nz9.out (.int .i64 xas) (.slice xaua xaq.length xauc) (.bool xal) (.int .i64 xat) (.int .i64 xaa) (.bool xan) (.int .i64 xad) (.slice xata xac.length xatc) (.int .i64 xann) (.bool false))
    have KE:=hZq (stN10_below (K11.out) hB9 (.int .i64 xas) (.slice xaua xaq.length xauc) (.bool xal) (.int .i64 xat) (.int .i64 xaa) (.bool xan) (.int .i64 xad) (.slice xata xac.length xatc) (.int .i64 xann) (.bool false))
    have QZ:=hZq (QX.out.nostr (noTx_str (l:=[.int .i64 0,.slice none 0 0,.bool false,.int .i64 0,.int .i64 0,.bool false,.int .i64 0,.slice none 0 0,.int .i64 0,.bool false]) nz9.out rfl) (fun k hk => stN10_far z11 B9 (.int .i64 xas) (.slice xaua xaq.length xauc) (.bool xal) (.int .i64 xat) (.int .i64 xaa) (.bool xan) (.int .i64 xad) (.slice xata xac.length xatc) (.int .i64 xann) (.bool false) hk) (stN10_size z11 B9 (.int .i64 xas) (.slice xaua xaq.length xauc) (.bool xal) (.int .i64 xat) (.int .i64 xaa) (.bool xan) (.int .i64 xad) (.slice xata xac.length xatc) (.int .i64 xann) (.bool false)))
    have TZ:=hZq (TX.out.nostr (noTx_str (l:=[.int .i64 0,.slice none 0 0,.bool false,.int .i64 0,.int .i64 0,.bool false,.int .i64 0,.slice none 0 0,.int .i64 0,.bool false]) nz9.out rfl) (fun k hk => stN10_far z11 B9 (.int .i64 xas) (.slice xaua xaq.length xauc) (.bool xal) (.int .i64 xat) (.int .i64 xaa) (.bool xan) (.int .i64 xad) (.slice xata xac.length xatc) (.int .i64 xann) (.bool false) hk) (stN10_size z11 B9 (.int .i64 xas) (.slice xaua xaq.length xauc) (.bool xal) (.int .i64 xat) (.int .i64 xaa) (.bool xan) (.int .i64 xad) (.slice xata xac.length xatc) (.int .i64 xann) (.bool false)))
    refine hK.out _ _ ?_ (fun hHeld2 => ?_)
    ·exact heldB_up KE.out D0.out
    clear hK Kx hHeld
    have hHeld:=hHeld2
    clear hHeld2
    refine wpAnyH_done (by kernel_rfl) ?_ _
    go_wp2_with fail
    go_meet
    exact⟨B9,xaua,xauc,xata,xatc,rfl,YB,QZ,TZ,KE⟩
  ·go_simp
   refine hK.out _ _ ?_ (fun hHeld2 => ?_)
   ·exact heldB_up (below2Z K0.out (bl_newZ _ _)) D0.out
   clear hK Kx hHeld
   have hHeld:=hHeld2
   clear hHeld2
   try simp only [Act.put,List.setIfInBounds_toArray,List.set_cons_zero,List.set_cons_succ]
   have bz13:=bl_newZ z0 (.cells #[.int .i64 0,.slice none 0 0,.bool false,.int .i64 0,.int .i64 0,.bool false,.int .i64 0,.slice none 0 0,.int .i64 0,.bool false] 41)
   have K13:=hZq (below2Z K0.out bz13)
   have D13:=hZq (heldB_up K13.out D0.out)
   have nz13:=hZq ((MapKept.heap_alloc z0 (.cells #[.int .i64 0,.slice none 0 0,.bool false,.int .i64 0,.int .i64 0,.bool false,.int .i64 0,.slice none 0 0,.int .i64 0,.bool false] 41)).1)
   have hB13:w8.heap.size≤z0.heap.size:=(K0.out).size
   clear bz13
   generalize z0.alloc (.cells #[.int .i64 0,.slice none 0 0,.bool false,.int .i64 0,.int .i64 0,.bool false,.int .i64 0,.slice none 0 0,.int .i64 0,.bool false] 41)=z13 at K13 D13 nz13 hHeld ⊢
   generalize z0.heap.size=B13 at nz13 hB13  ⊢
   refine wpAnyH_ready (rs:=[2]) (by as_aux_lemma => kernel_rfl) (by simp) ?_
   refine AllReadyH.cons rfl (fun Kx hK => ?_) AllReadyH.nil
   go_simp
   refine (rpmine (HV.out.later (K13.out)) (HC.out.later (K13.out)) seq tok at' dg nn la sn oo).mono ?_
   rintro e z14 ⟨rfl,bz14⟩
   have K14:=hZq (below2Z K13.out bz14)
   have D14:=hZq (heldB_up K14.out D0.out)
   replace nz13:=hZq (((bz14).block _ (Array.getElem?_eq_some_iff.1 (nz13.out)).1).trans (nz13.out))
   clear bz14
   go_wp2_with fail
   refine hK.out _ _ ?_ (fun hHeld2 => ?_)
   ·exact D14.out
   clear hK Kx hHeld
   have hHeld:=hHeld2
   clear hHeld2
   try simp only [Act.put,List.setIfInBounds_toArray,List.set_cons_zero,List.set_cons_succ]
   refine wpAnyH_ready (rs:=[8]) (by as_aux_lemma => kernel_rfl) (by simp) ?_
   refine AllReadyH.cons rfl (fun Kx hK => ?_) AllReadyH.nil
   go_simp
   refine (rpbound_v HBD _).mono ?_
   rintro e z15 ⟨rfl,bz15⟩
   have K15:=hZq (below2Z K14.out bz15)
   have D15:=hZq (heldB_up K15.out D0.out)
   replace nz13:=hZq (((bz15).block _ (Array.getElem?_eq_some_iff.1 (nz13.out)).1).trans (nz13.out))
   clear bz15
   go_wp2_with fail
   refine hK.out _ _ ?_ (fun hHeld2 => ?_)
   ·exact D15.out
   clear hK Kx hHeld
   have hHeld:=hHeld2
   clear hHeld2
   try simp only [Act.put,List.setIfInBounds_toArray,List.set_cons_zero,List.set_cons_succ]
   refine tkZ 11 ?_
   refine wpAnyH_ready (rs:=[12]) (by as_aux_lemma => kernel_rfl) (by simp) ?_
   refine AllReadyH.cons rfl (fun Kx hK => ?_) AllReadyH.nil
   go_simp
   refine (rpsettle (HV.out.later (K15.out)) (HC.out.later (K15.out)) (HT.out.later (K15.out)) s1 s2 s3 s4 s5 ca cb cd ce seq tok at' dg now nn (bd+rounds) la sn oo (by omega) (by omega) HA).mono ?_
   rintro e z16 ⟨u,tv,rfl,hU,hT,bz16⟩
   have K16:=hZq (below2Z K15.out bz16)
   have D16:=hZq (heldB_up K16.out D0.out)
   replace nz13:=hZq (((bz16).block _ (Array.getElem?_eq_some_iff.1 (nz13.out)).1).trans (nz13.out))
   obtain⟨xaua,xauc,rfl,-⟩:=hU.open'
   obtain⟨xata,xatc,rfl,-⟩:=hT.open'
   have QX:=hZq hU
   have TX:=hZq hT
   clear hU hT
   clear bz16
   go_wp2_with fail
   refine hK.out _ _ ?_ (fun hHeld2 => ?_)
   ·exact D16.out
   clear hK Kx hHeld
   have hHeld:=hHeld2
   clear hHeld2
   try simp only [Act.put,List.setIfInBounds_toArray,List.set_cons_zero,List.set_cons_succ]
   obtain⟨⟨r0,r1,r2,r3,r4,r5,r6,r7,r8,r9⟩,⟨g0,g1,g2,g3,g4,g5,g6,g7,g8,g9⟩⟩:=blk10 nz13.out
   refine wpAnyH_ready (rs:=[14]) (by as_aux_lemma => kernel_rfl) (by simp) ?_
   refine AllReadyH.cons rfl (fun Kx hK => ?_) AllReadyH.nil
   go_simp
   clear r0 r1 r2 r3 r4 r5 r6 r7 r8 r9 g0 g1 g2 g3 g4 g5 g6 g7 g8 g9
   have YB:=hZq (stN10_heap nz13.out (.int .i64 xas) (.slice xaua xaq.length xauc) (.bool xal) (.int .i64 xat) (.int .i64 xaa) (.bool xan) (.int .i64 xad) (.slice xata xac.length xatc) (.int .i64 xann) (.bool false))
   have KE:=hZq (stN10_below (K16.out) hB13 (.int .i64 xas) (.slice xaua xaq.length xauc) (.bool xal) (.int .i64 xat) (.int .i64 xaa) (.bool xan) (.int .i64 xad) (.slice xata xac.length xatc) (.int .i64 xann) (.bool false))
   have QZ:=hZq (QX.out.nostr (noTx_str (l:=[.int .i64 0,.slice none 0 0,.bool false,.int .i64 0,.int .i64 0,.bool false,.int .i64 0,.slice none 0 0,.int .i64 0,.bool false]) nz13.out rfl) (fun k hk => stN10_far z16 B13 (.int .i64 xas) (.slice xaua xaq.length xauc) (.bool xal) (.int .i64 xat) (.int .i64 xaa) (.bool xan) (.int .i64 xad) (.slice xata xac.length xatc) (.int .i64 xann) (.bool false) hk) (stN10_size z16 B13 (.int .i64 xas) (.slice xaua xaq.length xauc) (.bool xal) (.int .i64 xat) (.int .i64 xaa) (.bool xan) (.int .i64 xad) (.slice xata xac.length xatc) (.int .i64 xann) (.bool false)))
   have TZ:=hZq (TX.out.nostr (noTx_str (l:=[.int .i64 0,.slice none 0 0,.bool false,.int .i64 0,.int .i64 0,.bool false,.int .i64 0,.slice none 0 0,.int .i64 0,.bool false]) nz13.out rfl) (fun k hk => stN10_far z16 B13 (.int .i64 xas) (.slice xaua xaq.length xauc) (.bool xal) (.int .i64 xat) (.int .i64 xaa) (.bool xan) (.int .i64 xad) (.slice xata xac.length xatc) (.int .i64 xann) (.bool false) hk) (stN10_size z16 B13 (.int .i64 xas) (.slice xaua xaq.length xauc) (.bool xal) (.int .i64 xat) (.int .i64 xaa) (.bool xan) (.int .i64 xad) (.slice xata xac.length xatc) (.int .i64 xann) (.bool false)))
   refine hK.out _ _ ?_ (fun hHeld2 => ?_)
   ·exact heldB_up KE.out D0.out
   clear hK Kx hHeld
   have hHeld:=hHeld2
   clear hHeld2
   refine wpAnyH_done (by kernel_rfl) ?_ _
   go_wp2_with fail
   go_meet
   exact⟨B13,xaua,xauc,xata,xatc,rfl,YB,QZ,TZ,KE⟩
 case rest =>
  obtain⟨Bxa,xaua,xauc,xata,xatc,rfl,LN,QN,TN,KB⟩:=hcut
  obtain⟨w9,hw9⟩ : ∃ X,X=wc:=⟨_,rfl⟩
  subst hw9
  replace GB:=hZq (upQ GB.out KB.out)
  replace XB:=hZq (upQ XB.out KB.out)
  replace VB:=hZq (upQ VB.out KB.out)
  replace HV:=hZq (HV.out.later KB.out)
  replace HC:=hZq (HC.out.later KB.out)
  replace HT:=hZq (HT.out.later KB.out)
  replace HB:=hZq (below2Z HB.out KB.out)
  clear KB
  have Sxa:=LN
  have Qxa:=QN
  have Txa:=TN
  clear LN QN TN
  go_upto_region 6 with fail
  obtain⟨BS,hBS⟩ : ∃ BS:List (Nat × List Value),BS=[(w.heap.size,[.int .i64 ca,.int .i64 cb,.int .i64 cd,.int .i64 ce]),(w.heap.size+1,[.int .i64 seq,.slice qa ql.length qc,.bool la,.int .i64 tok,.int .i64 at',.bool sn,.int .i64 dg,.slice ta ct.length tc,.int .i64 nn,.bool oo]),(w.heap.size+1+1,[.slice va view.length vc,.int .i64 now,.int .i64 rounds]),(Bxa,[.int .i64 xas,.slice xaua xaq.length xauc,.bool xal,.int .i64 xat,.int .i64 xaa,.bool xan,.int .i64 xad,.slice xata xac.length xatc,.int .i64 xann,.bool false])]:=⟨_,rfl⟩
  have D0:=hZq (show heldB w9 BS from by rw [hBS]; exact heldB_cons (cellsAt_block GB.out) (heldB_cons (cellsAt_block XB.out) (heldB_cons (cellsAt_block VB.out) (heldB_cons (cellsAt_block Sxa.out) (heldB_nil _)))))
  have hL:=heldB_at (b:=w.heap.size) (vs:=[.int .i64 ca,.int .i64 cb,.int .i64 cd,.int .i64 ce]) (bs:=BS) (by rw [hBS]; simp)
  have hq0:=hL 0 _ rfl
  have hq1:=hL 1 _ rfl
  have hq2:=hL 2 _ rfl
  have hq3:=hL 3 _ rfl
  clear hL
  have hL:=heldB_at (b:=w.heap.size+1) (vs:=[.int .i64 seq,.slice qa ql.length qc,.bool la,.int .i64 tok,.int .i64 at',.bool sn,.int .i64 dg,.slice ta ct.length tc,.int .i64 nn,.bool oo]) (bs:=BS) (by rw [hBS]; simp)
  have hq4:=hL 0 _ rfl
  have hq5:=hL 1 _ rfl
  have hq6:=hL 2 _ rfl
  have hq7:=hL 3 _ rfl
  have hq8:=hL 4 _ rfl
  have hq9:=hL 5 _ rfl
  have hq10:=hL 6 _ rfl
  have hq11:=hL 7 _ rfl
  have hq12:=hL 8 _ rfl
  have hq13:=hL 9 _ rfl
  clear hL
  have hL:=heldB_at (b:=w.heap.size+1+1) (vs:=[.slice va view.length vc,.int .i64 now,.int .i64 rounds]) (bs:=BS) (by rw [hBS]; simp)
  have hq14:=hL 0 _ rfl
  have hq15:=hL 1 _ rfl
  have hq16:=hL 2 _ rfl
  clear hL
  have hL:=heldB_at (b:=Bxa) (vs:=[.int .i64 xas,.slice xaua xaq.length xauc,.bool xal,.int .i64 xat,.int .i64 xaa,.bool xan,.int .i64 xad,.slice xata xac.length xatc,.int .i64 xann,.bool false]) (bs:=BS) (by rw [hBS]; simp)
  have hq17:=hL 0 _ rfl
  have hq18:=hL 1 _ rfl
  have hq19:=hL 2 _ rfl
  have hq20:=hL 3 _ rfl
  have hq21:=hL 4 _ rfl
  have hq22:=hL 5 _ rfl
  have hq23:=hL 6 _ rfl
  have hq24:=hL 7 _ rfl
  have hq25:=hL 8 _ rfl
  have hq26:=hL 9 _ rfl
  clear hL
  clear hBS
  have K0:Hid (Below w9.heap.size w9 w9.drew):=hZq (Below.refl _ _).drew
  refine wp_region_held_drew (S:=(fun X => heldB X BS)) (by kernel_rfl) ?_ (fun hHeld => ?_)
  ·exact heldB_up K0.out D0.out
  generalize w9.drew=z0 at K0 hHeld ⊢
  refine tkZ 0 ?_
  refine tkZ 2 ?_
  refine tkZ 3 ?_
  refine wpAnyH_ready (rs:=[1]) (by as_aux_lemma => kernel_rfl) (by simp) ?_
  refine AllReadyH.cons rfl (fun Kx hK => ?_) AllReadyH.nil
  go_simp
  refine (rpbound_v HBD _).mono ?_
  rintro e z4001 ⟨rfl,bz4001⟩
  have K4001:=hZq (below2Z K0.out bz4001)
  have D4001:=hZq (heldB_up K4001.out D0.out)
  clear bz4001
  go_wp2_with fail
  refine hK.out _ _ ?_ (fun hHeld2 => ?_)
  ·exact D4001.out
  clear hK Kx hHeld
  have hHeld:=hHeld2
  clear hHeld2
  try simp only [Act.put,List.setIfInBounds_toArray,List.set_cons_zero,List.set_cons_succ]
  refine tkZ 4 ?_
  refine tkZ 5 ?_
  refine tkZ 6 ?_
  refine tkZ 8 ?_
  refine tkZ 9 ?_
  refine tkZ 10 ?_
  refine tkZ 11 ?_
  refine tkZ 12 ?_
  refine tkZ 13 ?_
  refine wpAnyH_ready (rs:=[7]) (by as_aux_lemma => kernel_rfl) (by simp) ?_
  refine AllReadyH.cons rfl (fun Kx hK => ?_) AllReadyH.nil
  go_simp
  refine (rpbound_v HBD _).mono ?_
  rintro e z4002 ⟨rfl,bz4002⟩
  have K4002:=hZq (below2Z K4001.out bz4002)
  have D4002:=hZq (heldB_up K4002.out D0.out)
  clear bz4002
  go_wp2_with fail
  refine hK.out _ _ ?_ (fun hHeld2 => ?_)
  ·exact D4002.out
  clear hK Kx hHeld
  have hHeld:=hHeld2
  clear hHeld2
  try simp only [Act.put,List.setIfInBounds_toArray,List.set_cons_zero,List.set_cons_succ]
  refine tkZ 14 ?_
  refine tkZ 15 ?_
  refine wpAnyH_done (by kernel_rfl) ?_ _
  replace GB:=hZq (upQ GB.out K4002.out)
  replace XB:=hZq (upQ XB.out K4002.out)
  replace VB:=hZq (upQ VB.out K4002.out)
  replace Sxa:=hZq (upQ Sxa.out K4002.out)
  replace HV:=hZq (HV.out.later K4002.out)
  replace HC:=hZq (HC.out.later K4002.out)
  replace HT:=hZq (HT.out.later K4002.out)
  replace Qxa:=hZq (Chgs.later Qxa.out K4002.out)
  replace Txa:=hZq (Tab.later Txa.out K4002.out)
  replace HB:=hZq (below2Z HB.out K4002.out)
  try clear hHeld
  try clear D0
  try clear K0
  go_upto_region 8 with fail
  obtain⟨BS,hBS⟩ : ∃ BS:List (Nat × List Value),BS=[(w.heap.size,[.int .i64 ca,.int .i64 cb,.int .i64 cd,.int .i64 ce]),(w.heap.size+1,[.int .i64 seq,.slice qa ql.length qc,.bool la,.int .i64 tok,.int .i64 at',.bool sn,.int .i64 dg,.slice ta ct.length tc,.int .i64 nn,.bool oo]),(w.heap.size+1+1,[.slice va view.length vc,.int .i64 now,.int .i64 rounds]),(Bxa,[.int .i64 xas,.slice xaua xaq.length xauc,.bool xal,.int .i64 xat,.int .i64 xaa,.bool xan,.int .i64 xad,.slice xata xac.length xatc,.int .i64 xann,.bool false])]:=⟨_,rfl⟩
  have D0:=hZq (show heldB z4002 BS from by rw [hBS]; exact heldB_cons (cellsAt_block GB.out) (heldB_cons (cellsAt_block XB.out) (heldB_cons (cellsAt_block VB.out) (heldB_cons (cellsAt_block Sxa.out) (heldB_nil _)))))
  have hL:=heldB_at (b:=w.heap.size) (vs:=[.int .i64 ca,.int .i64 cb,.int .i64 cd,.int .i64 ce]) (bs:=BS) (by rw [hBS]; simp)
  have hq0:=hL 0 _ rfl
  have hq1:=hL 1 _ rfl
  have hq2:=hL 2 _ rfl
  have hq3:=hL 3 _ rfl
  clear hL
  have hL:=heldB_at (b:=w.heap.size+1) (vs:=[.int .i64 seq,.slice qa ql.length qc,.bool la,.int .i64 tok,.int .i64 at',.bool sn,.int .i64 dg,.slice ta ct.length tc,.int .i64 nn,.bool oo]) (bs:=BS) (by rw [hBS]; simp)
  have hq4:=hL 0 _ rfl
  have hq5:=hL 1 _ rfl
  have hq6:=hL 2 _ rfl
  have hq7:=hL 3 _ rfl
  have hq8:=hL 4 _ rfl
  have hq9:=hL 5 _ rfl
  have hq10:=hL 6 _ rfl
  have hq11:=hL 7 _ rfl
  have hq12:=hL 8 _ rfl
  have hq13:=hL 9 _ rfl
  clear hL
  have hL:=heldB_at (b:=w.heap.size+1+1) (vs:=[.slice va view.length vc,.int .i64 now,.int .i64 rounds]) (bs:=BS) (by rw [hBS]; simp)
  have hq14:=hL 0 _ rfl
  have hq15:=hL 1 _ rfl
  have hq16:=hL 2 _ rfl
  clear hL
  have hL:=heldB_at (b:=Bxa) (vs:=[.int .i64 xas,.slice xaua xaq.length xauc,.bool xal,.int .i64 xat,.int .i64 xaa,.bool xan,.int .i64 xad,.slice xata xac.length xatc,.int .i64 xann,.bool false]) (bs:=BS) (by rw [hBS]; simp)
  have hq17:=hL 0 _ rfl
  have hq18:=hL 1 _ rfl
  have hq19:=hL 2 _ rfl
  have hq20:=hL 3 _ rfl
  have hq21:=hL 4 _ rfl
  have hq22:=hL 5 _ rfl
  have hq23:=hL 6 _ rfl
  have hq24:=hL 7 _ rfl
  have hq25:=hL 8 _ rfl
  have hq26:=hL 9 _ rfl
  clear hL
  clear hBS
  have K0:Hid (Below z4002.heap.size z4002 z4002.drew):=hZq (Below.refl _ _).drew
  refine wp_region_held_drew (S:=(fun X => heldB X BS)) (by kernel_rfl) ?_ (fun hHeld => ?_)
  ·exact heldB_up K0.out D0.out
  generalize z4002.drew=z0 at K0 hHeld ⊢
  refine tkZ 0 ?_
  refine tkZ 1 ?_
  refine tkZ 2 ?_
  refine tkZ 3 ?_
  refine tkZ 4 ?_
  refine tkZ 5 ?_
  refine tkZ 6 ?_
  refine tkZ 7 ?_
  refine tkZ 8 ?_
  refine tkZ 9 ?_
  refine wpAnyH_ready (rs:=[10]) (by as_aux_lemma => kernel_rfl) (by simp) ?_
  refine AllReadyH.cons rfl (fun Kx hK => ?_) AllReadyH.nil
  go_simp
  refine (tsame_eq (Txa.out.later (K0.out)) (HT.out.later (K0.out)) HTS).mono ?_
  rintro e z5001 ⟨rfl,bz5001⟩
  have K5001:=hZq (below2Z K0.out bz5001)
  have D5001:=hZq (heldB_up K5001.out D0.out)
  clear bz5001
  go_wp2_with fail
  refine hK.out _ _ ?_ (fun hHeld2 => ?_)
  ·exact D5001.out
  clear hK Kx hHeld
  have hHeld:=hHeld2
  clear hHeld2
  try simp only [Act.put,List.setIfInBounds_toArray,List.set_cons_zero,List.set_cons_succ]
  refine tkZ 11 ?_
  refine tkZ 12 ?_
  refine tkZ 13 ?_
  refine tkZ 14 ?_
  refine tkZ 15 ?_
  refine tkZ 16 ?_
  refine tkZ 18 ?_
  refine tkZ 19 ?_
  refine wpAnyH_ready (rs:=[17]) (by as_aux_lemma => kernel_rfl) (by simp) ?_
  refine AllReadyH.cons rfl (fun Kx hK => ?_) AllReadyH.nil
  go_simp
  refine (rsum_eqC (Txa.out.later (K5001.out)) HSA.out.st HZ).mono ?_
  rintro e z5002 ⟨rfl,bz5002⟩
  have K5002:=hZq (below2Z K5001.out bz5002)
  have D5002:=hZq (heldB_up K5002.out D0.out)
  clear bz5002
  go_wp2_with fail
  refine hK.out _ _ ?_ (fun hHeld2 => ?_)
  ·exact D5002.out
  clear hK Kx hHeld
  have hHeld:=hHeld2
  clear hHeld2
  try simp only [Act.put,List.setIfInBounds_toArray,List.set_cons_zero,List.set_cons_succ]
  refine wpAnyH_ready (rs:=[20]) (by as_aux_lemma => kernel_rfl) (by simp) ?_
  refine AllReadyH.cons rfl (fun Kx hK => ?_) AllReadyH.nil
  go_simp
  refine (rsum_eqC (HT.out.later (K5002.out)) s5 HZ2).mono ?_
  rintro e z5003 ⟨rfl,bz5003⟩
  have K5003:=hZq (below2Z K5002.out bz5003)
  have D5003:=hZq (heldB_up K5003.out D0.out)
  clear bz5003
  go_wp2_with fail
  refine hK.out _ _ ?_ (fun hHeld2 => ?_)
  ·exact D5003.out
  clear hK Kx hHeld
  have hHeld:=hHeld2
  clear hHeld2
  try simp only [Act.put,List.setIfInBounds_toArray,List.set_cons_zero,List.set_cons_succ]
  refine tkZ 21 ?_
  refine tkZ 22 ?_
  refine wpAnyH_done (by kernel_rfl) ?_ _
  replace GB:=hZq (upQ GB.out K5003.out)
  replace XB:=hZq (upQ XB.out K5003.out)
  replace VB:=hZq (upQ VB.out K5003.out)
  replace Sxa:=hZq (upQ Sxa.out K5003.out)
  replace HV:=hZq (HV.out.later K5003.out)
  replace HC:=hZq (HC.out.later K5003.out)
  replace HT:=hZq (HT.out.later K5003.out)
  replace Qxa:=hZq (Chgs.later Qxa.out K5003.out)
  replace Txa:=hZq (Tab.later Txa.out K5003.out)
  replace HB:=hZq (below2Z HB.out K5003.out)
  try clear hHeld
  try clear D0
  try clear K0
  go_wp2_with fail
  refine (live20 _).mono ?_
  rintro e w10 ⟨rfl,b10⟩
  replace HB:=hZq (below2Z HB.out b10)
  clear b10
  go_wp2_with fail
  go_ret
  exact⟨rfl,HB.out⟩

theorem walkRepairSettles {w:World} (c:Cfg) (_:CfgFit c) (seq:Int) (v:Value) (la:Bool) (tok at':Int) (sn:Bool) (dg:Int) (cv:Value) (nn:Int) (oo:Bool) (_:(Lit.int .i64 seq).wf=true) (hq:∃ t:List Chg,Chgs w v t) (_:(Lit.int .i64 tok).wf=true) (_:(Lit.int .i64 at').wf=true) (_:(Lit.int .i64 dg).wf=true) (hct:∃ t:List Row,Tab w cv t) (_:(Lit.int .i64 nn).wf=true) (vv:Value) (now rounds:Int) (hvt:∃ t:List Row,Tab w vv t) (_:(Lit.int .i64 now).wf=true) (_:(Lit.int .i64 rounds).wf=true) :
  Calls Tryz.prog 5 #[.agg #[.int .i64 c.room,.int .i64 c.burst,.int .i64 c.rate,.int .i64 c.per],.agg #[.int .i64 seq,v,.bool la,.int .i64 tok,.int .i64 at',.bool sn,.int .i64 dg,cv,.int .i64 nn,.bool oo],.agg #[vv,.int .i64 now,.int .i64 rounds]] w fun e w' => e=.returned (.bool true)∧Below w.heap.size w w':=by
 obtain⟨ql,hv⟩:=hq
 obtain⟨ct,hc⟩:=hct
 obtain⟨view,ht⟩:=hvt
 cases hf:fewC ql 30 && fewT ct with
 | false => exact rse_a hv hc ht c.room c.burst c.rate c.per seq tok at' dg nn now rounds la sn oo (hZq hf)
 | true =>
  cases hg:fewT view with
  | false => exact rse_b hv hc ht c.room c.burst c.rate c.per seq tok at' dg nn now rounds la sn oo (hZq hf) (hZq hg)
  | true =>
   by_cases hb:lnMay ⟨c.room,c.burst,c.rate,c.per⟩ ⟨seq,⟨ql,la⟩,⟨tok,at'⟩,sn,dg⟩=true∧clMay ⟨ct,nn,oo⟩=true∧diMay view=true∧¬ 40 < c.per∧¬ rounds < 0∧¬ 20 < rounds∧¬ now < 0∧¬ 549755813888 < now∧¬ now < at'∧¬ now < dg∧¬ seq < nn∧¬ 549755813888 < seq
   ·obtain⟨hL,hC,hD,hb⟩:=hb
    have hp0:=(pcOne_iff.1 (lnMay_iff.1 hL).1).1
    have hp:=pcMay_iff.1 hp0
    simp only at hp
    obtain⟨bd,hbd⟩ : ∃ bd,rpBound ⟨c.room,c.burst,c.rate,c.per⟩=bd:=⟨_,rfl⟩
    have hb2:bd=c.room+c.per+2:=by rw [← hbd]; unfold rpBound; rw [if_pos hp0]
    have hq:=rp_settles (cfg:=⟨c.room,c.burst,c.rate,c.per⟩) (s:=(⟨seq,⟨ql,la⟩,⟨tok,at'⟩,sn,dg⟩,(⟨ct,nn,oo⟩ : Cli))) (t:=now) (k:=(min (bd+rounds) 3000).toNat) hL hC hD (by omega) (by omega) (by show at'≤now; omega) (by show dg≤now; omega) (by show nn≤seq; omega) (by show seq≤_; omega) (by rw [hbd]; omega) (by omega)
    have hz:=rp_quiet_sync hq
    obtain⟨⟨⟨xas,⟨xaq,xal⟩,⟨xat,xaa⟩,xan,xad⟩,⟨xac,xann,xaoo⟩⟩,hx⟩ : ∃ x,rpSettle ⟨c.room,c.burst,c.rate,c.per⟩ view (min (bd+rounds) 3000).toNat now (⟨seq,⟨ql,la⟩,⟨tok,at'⟩,sn,dg⟩,(⟨ct,nn,oo⟩ : Cli))=x:=⟨_,rfl⟩
    rw [hx] at hq hz
    have ho:xaoo=false:=hq.2.2.2.1
    subst ho
    have hbb:0≤bd∧bd≤100∧c.room≤bd∧bd=c.room+c.per+2∧0≤c.room∧0≤c.per:=⟨by omega,by omega,by omega,hb2,by omega,by omega⟩
    cases ht2:tSame xac view with
    | true =>
     rw [show tSame _ view=true from ht2] at hz
     exact rse_d hv hc ht c.room c.burst c.rate c.per seq tok at' dg nn now rounds la sn oo (hZq hf) (hZq hg) (hZq hL) (hZq hC) (hZq hD) hb (hZq hbd) (hZq hbb) (hZq hx) (hZq ht2) (hZq hz)
    | false => exact rse_e hv hc ht c.room c.burst c.rate c.per seq tok at' dg nn now rounds la sn oo (hZq hf) (hZq hg) (hZq hL) (hZq hC) (hZq hD) hb (hZq hbd) (hZq hbb) (hZq hx) (hZq ht2) (hZq (show diSum xac=diSum view from hq.2.2.2.2.2)) (hZq rfl)
   ·exact rse_c hv hc ht c.room c.burst c.rate c.per seq tok at' dg nn now rounds la sn oo (hZq hf) (hZq hg) hb

end Go.Proofs.YtmpigdokghngiaaGreat
end

section
namespace Go.Proofs.YtmpigdokghngiaaGreat.repairSettles
open Go.ChangeShapes Go.WideShapes Go.ChangeAt Go.RowKit
open Go.ChangeMaps (open_string shut_string)
set_option linter.unusedVariables false

theorem own:ownKnob Tryz.prog.godebug=none:=by kernel_rfl
theorem laidOut:laidOutB Tryz.prog=true:=by kernel_rfl

theorem lifted (os:Os) (started:os.Started) (H:Type) (enc:TypeId × Value→H) :
  ReturnsInHanded {} Tryz.checked os 5 .any (Rows.repairSettlesSpec.pre6 enc Tryz.prog Tryz.f5 Rows.repairSettlesRow.domain false) (Rows.repairSettlesSpec.post enc Tryz.prog Tryz.f5 false true false false):=by
 refine returnsInHanded_of_change (C:=Tryz.checked) own started (by kernel_rfl) Tryz.func5
  (ChangeSpec.witness6 (enc:=enc) (C:=Tryz.checked) false ⟨#[],#[.agg #[.int .i64 0,.int .i64 0,.int .i64 0,.int .i64 0],.agg #[.int .i64 0,.slice none 0 0,.bool false,.int .i64 0,.int .i64 0,.bool false,.int .i64 0,.slice none 0 0,.int .i64 0,.bool false],.agg #[.slice none 0 0,.int .i64 0,.int .i64 0]],[]⟩ 8 (by kernel_rfl) (by kernel_rfl) (by kernel_rfl) (by kernel_rfl)) ?_
 intro W base args ds gs before hval0 hW hcnd _
 have hval:∀ (j:Nat) t v,Tryz.f5.params[j]?=some t→args[j]?=some v→Value.okWide Tryz.prog W .any base t v:=hval0
 have hW':=hW
 obtain⟨p,q,hA0,hV,rfl,hfz,hnd⟩:=hW
 have hA:DataW.TrodAll enc Tryz.prog W 0 (fun _ => true) true Tryz.f5.params.toList args.toList ds p:=hA0
 rw [Tryz.params5] at hA hval
 obtain⟨v0,vs0,d0,ds0,p0,q0,hargs,rfl,rfl,h0,r0⟩:=trodAll_cons hA
 obtain⟨v1,vs1,d1,ds1,p1,q1,rfl,rfl,rfl,h1,r1⟩:=trodAll_cons r0
 obtain⟨v2,vs2,d2,ds2,p2,q2,rfl,rfl,rfl,h2,r2⟩:=trodAll_cons r1
 obtain⟨rfl,rfl,rfl⟩:=trodAll_nil r2
 obtain rfl:args=#[v0,v1,v2]:=by cases args; simp_all
 obtain⟨rfl,rfl⟩:=trodVars_none hV
 have k0:=h0
 have lt0:∀ x ∈ p0,x.block < W.heap.size:=by obtain⟨m,hm⟩:=k0; exact DataW.trod_lt m _ _ _ hm
 obtain⟨a0,rfl,w0⟩:=open_cfg (hval 0 23 v0 rfl rfl) h0
 have k1:=h1
 have lt1:∀ x ∈ p1,x.block < W.heap.size:=by obtain⟨m,hm⟩:=k1; exact DataW.trod_lt m _ _ _ hm
 obtain⟨g1_0,g1_1,g1_2,g1_3,g1_4,g1_5,g1_6,g1_7,g1_8,g1_9,rfl,y1_0,y1_1,y1_2,y1_3,y1_4,y1_5,y1_6⟩:=open_rside (hval 1 35 v1 rfl rfl) h1
 have k2:=h2
 have lt2:∀ x ∈ p2,x.block < W.heap.size:=by obtain⟨m,hm⟩:=k2; exact DataW.trod_lt m _ _ _ hm
 obtain⟨g2_0,g2_1,g2_2,rfl,y2_0,y2_1,y2_2⟩:=open_rview (hval 2 37 v2 rfl rfl) h2
 clear hA0 hval0
 refine (walkRepairSettles (w:=W) a0 w0 g1_0 g1_1 g1_2 g1_3 g1_4 g1_5 g1_6 g1_7 g1_8 g1_9 y1_0 y1_1 y1_2 y1_3 y1_4 y1_5 y1_6 g2_0 g2_1 g2_2 y2_0 y2_1 y2_2).mono fun e W' ⟨he,bel⟩ => ?_
 subst he
 exact⟨_,rfl,_,_,_,[],_,[],hW',trodAll_mk1 (shut_bool Tryz.underlying4 _),(trodAll_cons_mk (Below.trod laidOut (by kernel_rfl) (of_decide_eq_true (by kernel_rfl)) k0 bel lt0) (trodAll_cons_mk (Below.trod laidOut (by kernel_rfl) (of_decide_eq_true (by kernel_rfl)) k1 bel lt1) (trodAll_cons_mk (Below.trod laidOut (by kernel_rfl) (of_decide_eq_true (by kernel_rfl)) k2 bel lt2) trodAll_mk0))),rfl,bel.frame _,fun h => by cases h⟩

theorem over:Rows.repairSettlesRow.holds Tryz.pinned (OpenSpec.ofChange Rows.repairSettlesSpec) :=
 OpenClaim.holds_of_wide 5 Tryz.f5 rfl rfl rfl rfl rfl rfl rfl ⟨rfl,rfl,rfl,rfl,rfl⟩ rfl rfl rfl rfl rfl (by kernel_rfl) Tryz.func5 (by kernel_rfl)
  (of_decide_eq_true (by kernel_rfl)) (by unfold Func.isWrapper; first | (rw [if_pos (by decide +kernel)]; kernel_rfl) | (rw [if_neg (by decide +kernel)]; exact⟨rfl,rfl⟩))
  (fun os started H enc _ => lifted os started H enc)

theorem proved:Rows.RepairSettlesSaid:=over
#print axioms proved
end Go.Proofs.YtmpigdokghngiaaGreat.repairSettles
end
