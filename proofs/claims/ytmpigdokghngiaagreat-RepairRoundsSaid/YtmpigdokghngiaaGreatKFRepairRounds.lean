/-
 THE PROOF OF RepairRounds: for every input the law returns true, and each argument reads behind the call as it read before. No condition.
-/
import Derived.Test.YtmpigdokghngiaaGreatK05
import Derived.Test.YtmpigdokghngiaaGreatK25
import Derived.Test.YtmpigdokghngiaaGreatK29
import Derived.Test.YtmpigdokghngiaaGreatK24
import Derived.Test.YtmpigdokghngiaaGreatK04
import Derived.Test.YtmpigdokghngiaaGreatRows
import Derived.ProofKit
import Derived.OpenShut
import Derived.ShutString
import Derived.ChangeOld
import Derived.SliceStrings
import Derived.Lib.SmallJoins

set_option maxHeartbeats 12800000
set_option maxRecDepth 100000

section
namespace Go.Proofs.YtmpigdokghngiaaGreat
open Go.RowKit

theorem rro_a {w:World} {v cv vv:Value} {ql:List Chg} {ct view:List Row} (hv:Chgs w v ql) (hc:Tab w cv ct) (ht:Tab w vv view) (ca cb cd ce seq tok at' dg nn now rounds:Int) (la sn oo:Bool) (HF:Hid ((fewC ql 30 && fewT ct)=false)) :
  Calls Tryz.prog 3 #[.agg #[.int .i64 ca,.int .i64 cb,.int .i64 cd,.int .i64 ce],.agg #[.int .i64 seq,v,.bool la,.int .i64 tok,.int .i64 at',.bool sn,.int .i64 dg,cv,.int .i64 nn,.bool oo],.agg #[vv,.int .i64 now,.int .i64 rounds]] w fun e w' => e=.returned (.bool true)∧Below w.heap.size w w':=by
 obtain⟨qa,qc,rfl,-⟩:=hv.open'
 obtain⟨ta,tc,rfl,-⟩:=hc.open'
 obtain⟨va,vc,rfl,-⟩:=ht.open'
 obtain⟨GB,XB,VB,HB⟩:=ent3 w (.cells #[.int .i64 ca,.int .i64 cb,.int .i64 cd,.int .i64 ce] 23) (.cells #[.int .i64 seq,.slice qa ql.length qc,.bool la,.int .i64 tok,.int .i64 at',.bool sn,.int .i64 dg,.slice ta ct.length tc,.int .i64 nn,.bool oo] 35) (.cells #[.slice va view.length vc,.int .i64 now,.int .i64 rounds] 37)
 have HV:=hZq ((hv).later HB.out)
 have HC:=hZq ((hc).later HB.out)
 have HT:=hZq ((ht).later HB.out)
 clear hv hc ht
 go_enter Tryz.func3,Tryz.ntmps3
 go_wp2_with (with_reducible refine ldA aggRSide _ rfl rfl (w.heap.size+1) 0 rfl XB.out [.int .i64 seq,.slice qa ql.length qc,.bool la,.int .i64 tok,.int .i64 at',.bool sn,.int .i64 dg,.slice ta ct.length tc,.int .i64 nn,.bool oo] rfl rfl ?_)
 refine (rrpfew HV.out HC.out seq tok at' dg nn la sn oo HF).mono ?_
 rintro e w4 ⟨rfl,b4⟩
 replace GB:=hZq (upQ GB.out b4)
 replace XB:=hZq (upQ XB.out b4)
 replace VB:=hZq (upQ VB.out b4)
 replace HV:=hZq (HV.out.later b4)
 replace HC:=hZq (HC.out.later b4)
 replace HT:=hZq (HT.out.later b4)
 replace HB:=hZq (below2Z HB.out b4)
 clear b4
 go_wp2_with fail
 refine (live20 _).mono ?_
 rintro e w5 ⟨rfl,b5⟩
 replace HB:=hZq (below2Z HB.out b5)
 clear b5
 go_wp2_with fail
 go_ret
 exact⟨rfl,HB.out⟩

theorem rro_b {w:World} {v cv vv:Value} {ql:List Chg} {ct view:List Row} (hv:Chgs w v ql) (hc:Tab w cv ct) (ht:Tab w vv view) (ca cb cd ce seq tok at' dg nn now rounds:Int) (la sn oo:Bool) (HF:Hid ((fewC ql 30 && fewT ct)=true)) (HG:Hid (fewT view=false)) :
  Calls Tryz.prog 3 #[.agg #[.int .i64 ca,.int .i64 cb,.int .i64 cd,.int .i64 ce],.agg #[.int .i64 seq,v,.bool la,.int .i64 tok,.int .i64 at',.bool sn,.int .i64 dg,cv,.int .i64 nn,.bool oo],.agg #[vv,.int .i64 now,.int .i64 rounds]] w fun e w' => e=.returned (.bool true)∧Below w.heap.size w w':=by
 obtain⟨qa,qc,rfl,-⟩:=hv.open'
 obtain⟨ta,tc,rfl,-⟩:=hc.open'
 obtain⟨va,vc,rfl,-⟩:=ht.open'
 obtain⟨GB,XB,VB,HB⟩:=ent3 w (.cells #[.int .i64 ca,.int .i64 cb,.int .i64 cd,.int .i64 ce] 23) (.cells #[.int .i64 seq,.slice qa ql.length qc,.bool la,.int .i64 tok,.int .i64 at',.bool sn,.int .i64 dg,.slice ta ct.length tc,.int .i64 nn,.bool oo] 35) (.cells #[.slice va view.length vc,.int .i64 now,.int .i64 rounds] 37)
 have HV:=hZq ((hv).later HB.out)
 have HC:=hZq ((hc).later HB.out)
 have HT:=hZq ((ht).later HB.out)
 clear hv hc ht
 go_enter Tryz.func3,Tryz.ntmps3
 go_wp2_with (with_reducible refine ldA aggRSide _ rfl rfl (w.heap.size+1) 0 rfl XB.out [.int .i64 seq,.slice qa ql.length qc,.bool la,.int .i64 tok,.int .i64 at',.bool sn,.int .i64 dg,.slice ta ct.length tc,.int .i64 nn,.bool oo] rfl rfl ?_)
 refine (rrpfew HV.out HC.out seq tok at' dg nn la sn oo HF).mono ?_
 rintro e w4 ⟨rfl,b4⟩
 replace GB:=hZq (upQ GB.out b4)
 replace XB:=hZq (upQ XB.out b4)
 replace VB:=hZq (upQ VB.out b4)
 replace HV:=hZq (HV.out.later b4)
 replace HC:=hZq (HC.out.later b4)
 replace HT:=hZq (HT.out.later b4)
 replace HB:=hZq (below2Z HB.out b4)
 clear b4
 have VBk0:=ckZ VB.out 0 _ rfl
 go_wp2_with fail
 clear VBk0
 refine (fewt_eqL HT.out HG).mono ?_
 rintro e w5 ⟨rfl,b5⟩
 replace GB:=hZq (upQ GB.out b5)
 replace XB:=hZq (upQ XB.out b5)
 replace VB:=hZq (upQ VB.out b5)
 replace HV:=hZq (HV.out.later b5)
 replace HC:=hZq (HC.out.later b5)
 replace HT:=hZq (HT.out.later b5)
 replace HB:=hZq (below2Z HB.out b5)
 clear b5
 go_wp2_with fail
 refine (live20 _).mono ?_
 rintro e w6 ⟨rfl,b6⟩
 replace HB:=hZq (below2Z HB.out b6)
 clear b6
 go_wp2_with fail
 go_ret
 exact⟨rfl,HB.out⟩

theorem rro_c {w:World} {v cv vv:Value} {ql:List Chg} {ct view:List Row} (hv:Chgs w v ql) (hc:Tab w cv ct) (ht:Tab w vv view) (ca cb cd ce seq tok at' dg nn now rounds:Int) (la sn oo:Bool) (HF:Hid ((fewC ql 30 && fewT ct)=true)) (HG:Hid (fewT view=true)) (hx:¬ (¬ 12 < rounds∧¬ 1125899906842624 < now)) :
  Calls Tryz.prog 3 #[.agg #[.int .i64 ca,.int .i64 cb,.int .i64 cd,.int .i64 ce],.agg #[.int .i64 seq,v,.bool la,.int .i64 tok,.int .i64 at',.bool sn,.int .i64 dg,cv,.int .i64 nn,.bool oo],.agg #[vv,.int .i64 now,.int .i64 rounds]] w fun e w' => e=.returned (.bool true)∧Below w.heap.size w w':=by
 obtain⟨qa,qc,rfl,-⟩:=hv.open'
 obtain⟨ta,tc,rfl,-⟩:=hc.open'
 obtain⟨va,vc,rfl,-⟩:=ht.open'
 obtain⟨GB,XB,VB,HB⟩:=ent3 w (.cells #[.int .i64 ca,.int .i64 cb,.int .i64 cd,.int .i64 ce] 23) (.cells #[.int .i64 seq,.slice qa ql.length qc,.bool la,.int .i64 tok,.int .i64 at',.bool sn,.int .i64 dg,.slice ta ct.length tc,.int .i64 nn,.bool oo] 35) (.cells #[.slice va view.length vc,.int .i64 now,.int .i64 rounds] 37)
 have HV:=hZq ((hv).later HB.out)
 have HC:=hZq ((hc).later HB.out)
 have HT:=hZq ((ht).later HB.out)
 clear hv hc ht
 go_enter Tryz.func3,Tryz.ntmps3
 go_wp2_with (with_reducible refine ldA aggRSide _ rfl rfl (w.heap.size+1) 0 rfl XB.out [.int .i64 seq,.slice qa ql.length qc,.bool la,.int .i64 tok,.int .i64 at',.bool sn,.int .i64 dg,.slice ta ct.length tc,.int .i64 nn,.bool oo] rfl rfl ?_)
 refine (rrpfew HV.out HC.out seq tok at' dg nn la sn oo HF).mono ?_
 rintro e w4 ⟨rfl,b4⟩
 replace GB:=hZq (upQ GB.out b4)
 replace XB:=hZq (upQ XB.out b4)
 replace VB:=hZq (upQ VB.out b4)
 replace HV:=hZq (HV.out.later b4)
 replace HC:=hZq (HC.out.later b4)
 replace HT:=hZq (HT.out.later b4)
 replace HB:=hZq (below2Z HB.out b4)
 clear b4
 have VBk0:=ckZ VB.out 0 _ rfl
 go_wp2_with fail
 clear VBk0
 refine (fewt_eqL HT.out HG).mono ?_
 rintro e w5 ⟨rfl,b5⟩
 replace GB:=hZq (upQ GB.out b5)
 replace XB:=hZq (upQ XB.out b5)
 replace VB:=hZq (upQ VB.out b5)
 replace HV:=hZq (HV.out.later b5)
 replace HC:=hZq (HC.out.later b5)
 replace HT:=hZq (HT.out.later b5)
 replace HB:=hZq (below2Z HB.out b5)
 clear b5
 by_cases hk0:12 < rounds
 ·have gd18430:decide (12 < rounds)=true:=by rw [decide_eq_true_eq]; omega
  have VBk1:=ckZ VB.out 1 _ rfl
  have VBk2:=ckZ VB.out 2 _ rfl
  go_wp2_with fail
  clear VBk1 VBk2
  refine (live20 _).mono ?_
  rintro e w56 ⟨rfl,b56⟩
  replace HB:=hZq (below2Z HB.out b56)
  clear b56
  go_wp2_with fail
  go_ret
  exact⟨rfl,HB.out⟩
 ·have gd90107:decide (12 < rounds)=false:=by rw [decide_eq_false_iff_not]; omega
  by_cases hk1:1125899906842624 < now
  ·have gd45026:decide (1125899906842624 < now)=true:=by rw [decide_eq_true_eq]; omega
   have VBk1:=ckZ VB.out 1 _ rfl
   have VBk2:=ckZ VB.out 2 _ rfl
   go_wp2_with fail
   clear VBk1 VBk2
   refine (live20 _).mono ?_
   rintro e w56 ⟨rfl,b56⟩
   replace HB:=hZq (below2Z HB.out b56)
   clear b56
   go_wp2_with fail
   go_ret
   exact⟨rfl,HB.out⟩
  ·have gd15605:decide (1125899906842624 < now)=false:=by rw [decide_eq_false_iff_not]; omega
   exact absurd ⟨by omega,by omega⟩ hx

theorem rro_d {w:World} {v cv vv:Value} {ql:List Chg} {ct view:List Row} (hv:Chgs w v ql) (hc:Tab w cv ct) (ht:Tab w vv view) (ca cb cd ce seq tok at' dg nn now rounds:Int) (la sn oo:Bool) (HF:Hid ((fewC ql 30 && fewT ct)=true)) (HG:Hid (fewT view=true)) (hb:¬ 12 < rounds∧¬ 1125899906842624 < now) (hlo:-9223372036854775808≤now) {xas xat xaa xad xann:Int} {xaq:List Chg} {xal xan xaoo:Bool} {xac:List Row} {xbs xbt xba xbd xbnn:Int} {xbq:List Chg} {xbl xbn xboo:Bool} {xbc:List Row} (HA:Hid (rpRound ⟨ca,cb,cd,ce⟩ view now (⟨seq,⟨ql,la⟩,⟨tok,at'⟩,sn,dg⟩,(⟨ct,nn,oo⟩ : Cli))=(⟨xas,⟨xaq,xal⟩,⟨xat,xaa⟩,xan,xad⟩,(⟨xac,xann,xaoo⟩ : Cli)))) (HBS:Hid (rpSettle ⟨ca,cb,cd,ce⟩ view (min (rounds:Int) 3000).toNat now (⟨seq,⟨ql,la⟩,⟨tok,at'⟩,sn,dg⟩,(⟨ct,nn,oo⟩ : Cli))=(⟨xbs,⟨xbq,xbl⟩,⟨xbt,xba⟩,xbn,xbd⟩,(⟨xbc,xbnn,xboo⟩ : Cli)))) (HS:Hid (rpSynced (⟨seq,⟨ql,la⟩,⟨tok,at'⟩,sn,dg⟩,(⟨ct,nn,oo⟩ : Cli)) view=true)) :
  Calls Tryz.prog 3 #[.agg #[.int .i64 ca,.int .i64 cb,.int .i64 cd,.int .i64 ce],.agg #[.int .i64 seq,v,.bool la,.int .i64 tok,.int .i64 at',.bool sn,.int .i64 dg,cv,.int .i64 nn,.bool oo],.agg #[vv,.int .i64 now,.int .i64 rounds]] w fun e w' => e=.returned (.bool true)∧Below w.heap.size w w':=by
 obtain⟨s1,s2,s3,s4⟩:=few_short HF.out
 have s5:Short view:=fun r hr => by have:=((fewT_yes HG.out).2 r hr); omega
 obtain⟨k0,k1⟩:=hb
 have gd90107:decide (12 < rounds)=false:=by rw [decide_eq_false_iff_not]; omega
 have gd15605:decide (1125899906842624 < now)=false:=by rw [decide_eq_false_iff_not]; omega
 obtain⟨qa,qc,rfl,-⟩:=hv.open'
 obtain⟨ta,tc,rfl,-⟩:=hc.open'
 obtain⟨va,vc,rfl,-⟩:=ht.open'
 obtain⟨GB,XB,VB,HB⟩:=ent3 w (.cells #[.int .i64 ca,.int .i64 cb,.int .i64 cd,.int .i64 ce] 23) (.cells #[.int .i64 seq,.slice qa ql.length qc,.bool la,.int .i64 tok,.int .i64 at',.bool sn,.int .i64 dg,.slice ta ct.length tc,.int .i64 nn,.bool oo] 35) (.cells #[.slice va view.length vc,.int .i64 now,.int .i64 rounds] 37)
 have HV:=hZq ((hv).later HB.out)
 have HC:=hZq ((hc).later HB.out)
 have HT:=hZq ((ht).later HB.out)
 clear hv hc ht
 go_enter Tryz.func3,Tryz.ntmps3
 go_wp2_with (with_reducible refine ldA aggRSide _ rfl rfl (w.heap.size+1) 0 rfl XB.out [.int .i64 seq,.slice qa ql.length qc,.bool la,.int .i64 tok,.int .i64 at',.bool sn,.int .i64 dg,.slice ta ct.length tc,.int .i64 nn,.bool oo] rfl rfl ?_)
 refine (rrpfew HV.out HC.out seq tok at' dg nn la sn oo HF).mono ?_
 rintro e w4 ⟨rfl,b4⟩
 replace GB:=hZq (upQ GB.out b4)
 replace XB:=hZq (upQ XB.out b4)
 replace VB:=hZq (upQ VB.out b4)
 replace HV:=hZq (HV.out.later b4)
 replace HC:=hZq (HC.out.later b4)
 replace HT:=hZq (HT.out.later b4)
 replace HB:=hZq (below2Z HB.out b4)
 clear b4
 have VBk0:=ckZ VB.out 0 _ rfl
 go_wp2_with fail
 clear VBk0
 refine (fewt_eqL HT.out HG).mono ?_
 rintro e w5 ⟨rfl,b5⟩
 replace GB:=hZq (upQ GB.out b5)
 replace XB:=hZq (upQ XB.out b5)
 replace VB:=hZq (upQ VB.out b5)
 replace HV:=hZq (HV.out.later b5)
 replace HC:=hZq (HC.out.later b5)
 replace HT:=hZq (HT.out.later b5)
 replace HB:=hZq (below2Z HB.out b5)
 clear b5
 have VBk1:=ckZ VB.out 1 _ rfl
 have VBk2:=ckZ VB.out 2 _ rfl
 go_wp2_with (with_reducible refine ldA aggRSide _ rfl rfl (w.heap.size+1) 0 rfl XB.out [.int .i64 seq,.slice qa ql.length qc,.bool la,.int .i64 tok,.int .i64 at',.bool sn,.int .i64 dg,.slice ta ct.length tc,.int .i64 nn,.bool oo] rfl rfl ?_)
 clear VBk1 VBk2
 refine (rpmine HV.out HC.out seq tok at' dg nn la sn oo).mono ?_
 rintro e w6 ⟨rfl,b6⟩
 replace GB:=hZq (upQ GB.out b6)
 replace XB:=hZq (upQ XB.out b6)
 replace VB:=hZq (upQ VB.out b6)
 replace HV:=hZq (HV.out.later b6)
 replace HC:=hZq (HC.out.later b6)
 replace HT:=hZq (HT.out.later b6)
 replace HB:=hZq (below2Z HB.out b6)
 clear b6
 have hsGB:=(Array.getElem?_eq_some_iff.1 GB.out).1
 have hsXB:=(Array.getElem?_eq_some_iff.1 XB.out).1
 have hsVB:=(Array.getElem?_eq_some_iff.1 VB.out).1
 have b7:=bl_newZ w6 (.cells #[.int .i64 0,.slice none 0 0,.bool false,.int .i64 0,.int .i64 0,.bool false,.int .i64 0,.slice none 0 0,.int .i64 0,.bool false] 41)
 have SM:=newQ w6 (.cells #[.int .i64 0,.slice none 0 0,.bool false,.int .i64 0,.int .i64 0,.bool false,.int .i64 0,.slice none 0 0,.int .i64 0,.bool false] 41)
 have hSM:w.heap.size≤w6.heap.size:=HB.out.size
 replace GB:=hZq (upQ GB.out b7)
 replace XB:=hZq (upQ XB.out b7)
 replace VB:=hZq (upQ VB.out b7)
 replace HV:=hZq (HV.out.later b7)
 replace HC:=hZq (HC.out.later b7)
 replace HT:=hZq (HT.out.later b7)
 replace HB:=hZq (below2Z HB.out b7)
 clear b7
 replace SM:=hZq SM
 go_wp2_with (with_reducible refine stA aggSide _ _ rfl rfl (w6.heap.size) 0 rfl SM.out [.int .i64 seq,.slice qa ql.length qc,.bool la,.int .i64 tok,.int .i64 at',.bool sn,.int .i64 dg,.slice ta ct.length tc,.int .i64 nn,.bool oo] rfl rfl (Nat.le_of_ble_eq_true rfl) rfl [.int .i64 seq,.slice qa ql.length qc,.bool la,.int .i64 tok,.int .i64 at',.bool sn,.int .i64 dg,.slice ta ct.length tc,.int .i64 nn,.bool oo] rfl ?_)
 intro w8 hst
 have HBz:=hZq (hst.bel HB.out (show w.heap.size≤w6.heap.size by omega))
 have GBz:=hZq (hst.keep GB.out (show ¬ w.heap.size=w6.heap.size by omega))
 have XBz:=hZq (hst.keep XB.out (show ¬ w.heap.size+1=w6.heap.size by omega))
 have VBz:=hZq (hst.keep VB.out (show ¬ w.heap.size+1+1=w6.heap.size by omega))
 have SMz:=hZq hst.at'
 have HVz:=hZq (Chgs.sta HV.out hst SM.out rfl)
 have HCz:=hZq (Tab.sta HC.out hst SM.out rfl)
 have HTz:=hZq (Tab.sta HT.out hst SM.out rfl)
 clear hst HB GB XB VB SM HV HC HT
 have HB:=HBz
 have GB:=GBz
 have XB:=XBz
 have VB:=VBz
 have SM:=SMz
 have HV:=HVz
 have HC:=HCz
 have HT:=HTz
 clear HBz GBz XBz VBz SMz HVz HCz HTz
 generalize w6.heap.size=BSM at SM hSM hsGB hsXB hsVB ⊢
 have dSMGB:¬ w.heap.size=BSM:=by omega
 have dSMXB:¬ w.heap.size+1=BSM:=by omega
 have dSMVB:¬ w.heap.size+1+1=BSM:=by omega
 have eSMGB:¬ BSM=w.heap.size:=by omega
 have eSMXB:¬ BSM=w.heap.size+1:=by omega
 have eSMVB:¬ BSM=w.heap.size+1+1:=by omega
 clear hsGB hsXB hsVB
 go_upto_region 4 with fail
 obtain⟨BS,hBS⟩ : ∃ BS:List (Nat × List Value),BS=[(w.heap.size,[.int .i64 ca,.int .i64 cb,.int .i64 cd,.int .i64 ce]),(w.heap.size+1,[.int .i64 seq,.slice qa ql.length qc,.bool la,.int .i64 tok,.int .i64 at',.bool sn,.int .i64 dg,.slice ta ct.length tc,.int .i64 nn,.bool oo]),(w.heap.size+1+1,[.slice va view.length vc,.int .i64 now,.int .i64 rounds]),(BSM,[.int .i64 seq,.slice qa ql.length qc,.bool la,.int .i64 tok,.int .i64 at',.bool sn,.int .i64 dg,.slice ta ct.length tc,.int .i64 nn,.bool oo])]:=⟨_,rfl⟩
 have D0:=hZq (show heldB w8 BS from by rw [hBS]; exact heldB_cons (cellsAt_block GB.out) (heldB_cons (cellsAt_block XB.out) (heldB_cons (cellsAt_block VB.out) (heldB_cons (cellsAt_block SM.out) (heldB_nil _)))))
 have hL:=heldB_at (b:=w.heap.size) (vs:=[.int .i64 ca,.int .i64 cb,.int .i64 cd,.int .i64 ce]) (bs:=BS) (by rw [hBS]; simp)
 have hq0:=hL 0 _ rfl
 have hq1:=hL 1 _ rfl
 have hq2:=hL 2 _ rfl
 have hq3:=hL 3 _ rfl
 clear hL
 have hL:=heldB_at (b:=w.heap.size+1) (vs:=[.int .i64 seq,.slice qa ql.length qc,.bool la,.int .i64 tok,.int .i64 at',.bool sn,.int .i64 dg,.slice ta ct.length tc,.int .i64 nn,.bool oo]) (bs:=BS) (by rw [hBS]; simp)
 have hq4:=hL 0 _ rfl
 have hq5:=hL 1 _ rfl
 have hq6:=hL 2 _ rfl
 have hq7:=hL 3 _ rfl
 have hq8:=hL 4 _ rfl
 have hq9:=hL 5 _ rfl
 have hq10:=hL 6 _ rfl
 have hq11:=hL 7 _ rfl
 have hq12:=hL 8 _ rfl
 have hq13:=hL 9 _ rfl
 clear hL
 have hL:=heldB_at (b:=w.heap.size+1+1) (vs:=[.slice va view.length vc,.int .i64 now,.int .i64 rounds]) (bs:=BS) (by rw [hBS]; simp)
 have hq14:=hL 0 _ rfl
 have hq15:=hL 1 _ rfl
 have hq16:=hL 2 _ rfl
 clear hL
 have hL:=heldB_at (b:=BSM) (vs:=[.int .i64 seq,.slice qa ql.length qc,.bool la,.int .i64 tok,.int .i64 at',.bool sn,.int .i64 dg,.slice ta ct.length tc,.int .i64 nn,.bool oo]) (bs:=BS) (by rw [hBS]; simp)
 have hq17:=hL 0 _ rfl
 have hq18:=hL 1 _ rfl
 have hq19:=hL 2 _ rfl
 have hq20:=hL 3 _ rfl
 have hq21:=hL 4 _ rfl
 have hq22:=hL 5 _ rfl
 have hq23:=hL 6 _ rfl
 have hq24:=hL 7 _ rfl
 have hq25:=hL 8 _ rfl
 have hq26:=hL 9 _ rfl
 clear hL
 clear hBS
 have K0:Hid (Below w8.heap.size w8 w8.drew):=hZq (Below.refl _ _).drew
 refine wp_region_held_drew (S:=(fun X => heldB X BS)) (by kernel_rfl) ?_ (fun hHeld => ?_)
 ·exact heldB_up K0.out D0.out
 generalize w8.drew=z0 at K0 hHeld ⊢
 refine tkZ 0 ?_
 refine tkZ 1 ?_
 refine tkZ 2 ?_
 refine tkZ 3 ?_
 refine tkZ 4 ?_
 refine tkZ 5 ?_
 refine tkZ 7 ?_
 refine tkZ 8 ?_
 refine tkZ 9 ?_
 refine tkZ 10 ?_
 refine tkZ 11 ?_
 refine tkZ 12 ?_
 refine wpAnyH_ready (rs:=[6]) (by as_aux_lemma => kernel_rfl) (by simp) ?_
 refine AllReadyH.cons rfl (fun Kx hK => ?_) AllReadyH.nil
 go_simp
 refine (rpround (HV.out.later (K0.out)) (HC.out.later (K0.out)) (HT.out.later (K0.out)) s1 s2 s3 s4 s5 ca cb cd ce seq tok at' dg now nn la sn oo HA).mono ?_
 rintro e z9001 ⟨u,tv,rfl,hU,hT,bz9001⟩
 have K9001:=hZq (below2Z K0.out bz9001)
 have D9001:=hZq (heldB_up K9001.out D0.out)
 obtain⟨u1ua,u1uc,rfl,-⟩:=hU.open'
 obtain⟨u1ta,u1tc,rfl,-⟩:=hT.open'
 have Qu1:=hZq hU
 have Tu1:=hZq hT
 clear hU hT
 clear bz9001
 go_wp2_with fail
 refine hK.out _ _ ?_ (fun hHeld2 => ?_)
 ·exact D9001.out
 clear hK Kx hHeld
 have hHeld:=hHeld2
 clear hHeld2
 try simp only [Act.put,List.setIfInBounds_toArray,List.set_cons_zero,List.set_cons_succ]
 refine wpAnyH_ready (rs:=[13]) (by as_aux_lemma => kernel_rfl) (by simp) ?_
 refine AllReadyH.cons rfl (fun Kx hK => ?_) AllReadyH.nil
 go_simp
 refine (rrpround (HV.out.later (K9001.out)) (HC.out.later (K9001.out)) (HT.out.later (K9001.out)) s1 s2 s3 s4 s5 ca cb cd ce seq tok at' dg now nn la sn oo HA).mono ?_
 rintro e z9002 ⟨u,tv,rfl,hU,hT,bz9002⟩
 have K9002:=hZq (below2Z K9001.out bz9002)
 have D9002:=hZq (heldB_up K9002.out D0.out)
 replace Qu1:=hZq (Chgs.later (Qu1.out) bz9002)
 replace Tu1:=hZq (Tab.later (Tu1.out) bz9002)
 obtain⟨u2ua,u2uc,rfl,-⟩:=hU.open'
 obtain⟨u2ta,u2tc,rfl,-⟩:=hT.open'
 have Qu2:=hZq hU
 have Tu2:=hZq hT
 clear hU hT
 clear bz9002
 go_wp2_with fail
 refine hK.out _ _ ?_ (fun hHeld2 => ?_)
 ·exact D9002.out
 clear hK Kx hHeld
 have hHeld:=hHeld2
 clear hHeld2
 try simp only [Act.put,List.setIfInBounds_toArray,List.set_cons_zero,List.set_cons_succ]
 refine wpAnyH_ready (rs:=[14]) (by as_aux_lemma => kernel_rfl) (by simp) ?_
 refine AllReadyH.cons rfl (fun Kx hK => ?_) AllReadyH.nil
 go_simp
 refine (rpsame_yes Qu1.out Tu1.out xas xat xaa xad xann xal xan xaoo Qu2.out Tu2.out).mono ?_
 rintro e z9003 ⟨rfl,bz9003⟩
 have K9003:=hZq (below2Z K9002.out bz9003)
 have D9003:=hZq (heldB_up K9003.out D0.out)
 replace Qu1:=hZq (Chgs.later (Qu1.out) bz9003)
 replace Tu1:=hZq (Tab.later (Tu1.out) bz9003)
 replace Qu2:=hZq (Chgs.later (Qu2.out) bz9003)
 replace Tu2:=hZq (Tab.later (Tu2.out) bz9003)
 clear bz9003
 go_wp2_with fail
 refine hK.out _ _ ?_ (fun hHeld2 => ?_)
 ·exact D9003.out
 clear hK Kx hHeld
 have hHeld:=hHeld2
 clear hHeld2
 try simp only [Act.put,List.setIfInBounds_toArray,List.set_cons_zero,List.set_cons_succ]
 refine tkZ 15 ?_
 refine tkZ 16 ?_
 refine tkZ 17 ?_
 refine tkZ 18 ?_
 refine tkZ 19 ?_
 refine tkZ 20 ?_
 refine tkZ 21 ?_
 refine tkZ 22 ?_
 refine tkZ 23 ?_
 refine tkZ 25 ?_
 refine tkZ 26 ?_
 refine tkZ 27 ?_
 refine tkZ 28 ?_
 refine tkZ 29 ?_
 refine tkZ 30 ?_
 refine tkZ 31 ?_
 refine tkZ 32 ?_
 refine wpAnyH_ready (rs:=[24]) (by as_aux_lemma => kernel_rfl) (by simp) ?_
 refine AllReadyH.cons rfl (fun Kx hK => ?_) AllReadyH.nil
 go_simp
 refine (rpsettle (HV.out.later (K9003.out)) (HC.out.later (K9003.out)) (HT.out.later (K9003.out)) s1 s2 s3 s4 s5 ca cb cd ce seq tok at' dg now nn rounds la sn oo (by omega) (by omega) HBS).mono ?_
 rintro e z9004 ⟨u,tv,rfl,hU,hT,bz9004⟩
 have K9004:=hZq (below2Z K9003.out bz9004)
 have D9004:=hZq (heldB_up K9004.out D0.out)
 replace Qu1:=hZq (Chgs.later (Qu1.out) bz9004)
 replace Tu1:=hZq (Tab.later (Tu1.out) bz9004)
 replace Qu2:=hZq (Chgs.later (Qu2.out) bz9004)
 replace Tu2:=hZq (Tab.later (Tu2.out) bz9004)
 obtain⟨u3ua,u3uc,rfl,-⟩:=hU.open'
 obtain⟨u3ta,u3tc,rfl,-⟩:=hT.open'
 have Qu3:=hZq hU
 have Tu3:=hZq hT
 clear hU hT
 clear bz9004
 go_wp2_with fail
 refine hK.out _ _ ?_ (fun hHeld2 => ?_)
 ·exact D9004.out
 clear hK Kx hHeld
 have hHeld:=hHeld2
 clear hHeld2
 try simp only [Act.put,List.setIfInBounds_toArray,List.set_cons_zero,List.set_cons_succ]
 refine wpAnyH_ready (rs:=[33]) (by as_aux_lemma => kernel_rfl) (by simp) ?_
 refine AllReadyH.cons rfl (fun Kx hK => ?_) AllReadyH.nil
 go_simp
 refine (rrpsettle (HV.out.later (K9004.out)) (HC.out.later (K9004.out)) (HT.out.later (K9004.out)) s1 s2 s3 s4 s5 ca cb cd ce seq tok at' dg now nn rounds la sn oo (by omega) (by omega) HBS).mono ?_
 rintro e z9005 ⟨u,tv,rfl,hU,hT,bz9005⟩
 have K9005:=hZq (below2Z K9004.out bz9005)
 have D9005:=hZq (heldB_up K9005.out D0.out)
 replace Qu1:=hZq (Chgs.later (Qu1.out) bz9005)
 replace Tu1:=hZq (Tab.later (Tu1.out) bz9005)
 replace Qu2:=hZq (Chgs.later (Qu2.out) bz9005)
 replace Tu2:=hZq (Tab.later (Tu2.out) bz9005)
 replace Qu3:=hZq (Chgs.later (Qu3.out) bz9005)
 replace Tu3:=hZq (Tab.later (Tu3.out) bz9005)
 obtain⟨u4ua,u4uc,rfl,-⟩:=hU.open'
 obtain⟨u4ta,u4tc,rfl,-⟩:=hT.open'
 have Qu4:=hZq hU
 have Tu4:=hZq hT
 clear hU hT
 clear bz9005
 go_wp2_with fail
 refine hK.out _ _ ?_ (fun hHeld2 => ?_)
 ·exact D9005.out
 clear hK Kx hHeld
 have hHeld:=hHeld2
 clear hHeld2
 try simp only [Act.put,List.setIfInBounds_toArray,List.set_cons_zero,List.set_cons_succ]
 refine wpAnyH_ready (rs:=[34]) (by as_aux_lemma => kernel_rfl) (by simp) ?_
 refine AllReadyH.cons rfl (fun Kx hK => ?_) AllReadyH.nil
 go_simp
 refine (rpsame_yes Qu3.out Tu3.out xbs xbt xba xbd xbnn xbl xbn xboo Qu4.out Tu4.out).mono ?_
 rintro e z9006 ⟨rfl,bz9006⟩
 have K9006:=hZq (below2Z K9005.out bz9006)
 have D9006:=hZq (heldB_up K9006.out D0.out)
 replace Qu1:=hZq (Chgs.later (Qu1.out) bz9006)
 replace Tu1:=hZq (Tab.later (Tu1.out) bz9006)
 replace Qu2:=hZq (Chgs.later (Qu2.out) bz9006)
 replace Tu2:=hZq (Tab.later (Tu2.out) bz9006)
 replace Qu3:=hZq (Chgs.later (Qu3.out) bz9006)
 replace Tu3:=hZq (Tab.later (Tu3.out) bz9006)
 replace Qu4:=hZq (Chgs.later (Qu4.out) bz9006)
 replace Tu4:=hZq (Tab.later (Tu4.out) bz9006)
 clear bz9006
 go_wp2_with fail
 refine hK.out _ _ ?_ (fun hHeld2 => ?_)
 ·exact D9006.out
 clear hK Kx hHeld
 have hHeld:=hHeld2
 clear hHeld2
 try simp only [Act.put,List.setIfInBounds_toArray,List.set_cons_zero,List.set_cons_succ]
 refine tkZ 35 ?_
 refine tkZ 36 ?_
 refine tkZ 37 ?_
 refine tkZ 38 ?_
 refine tkZ 39 ?_
 refine tkZ 41 ?_
 refine tkZ 42 ?_
 refine tkZ 43 ?_
 refine wpAnyH_ready (rs:=[40]) (by as_aux_lemma => kernel_rfl) (by simp) ?_
 refine AllReadyH.cons rfl (fun Kx hK => ?_) AllReadyH.nil
 go_simp
 refine (rpsync_any (HV.out.later (K9006.out)) (HC.out.later (K9006.out)) (HT.out.later (K9006.out)) HS).mono ?_
 rintro e z9007 ⟨rfl,bz9007⟩
 have K9007:=hZq (below2Z K9006.out bz9007)
 have D9007:=hZq (heldB_up K9007.out D0.out)
 replace Qu1:=hZq (Chgs.later (Qu1.out) bz9007)
 replace Tu1:=hZq (Tab.later (Tu1.out) bz9007)
 replace Qu2:=hZq (Chgs.later (Qu2.out) bz9007)
 replace Tu2:=hZq (Tab.later (Tu2.out) bz9007)
 replace Qu3:=hZq (Chgs.later (Qu3.out) bz9007)
 replace Tu3:=hZq (Tab.later (Tu3.out) bz9007)
 replace Qu4:=hZq (Chgs.later (Qu4.out) bz9007)
 replace Tu4:=hZq (Tab.later (Tu4.out) bz9007)
 clear bz9007
 go_wp2_with fail
 refine hK.out _ _ ?_ (fun hHeld2 => ?_)
 ·exact D9007.out
 clear hK Kx hHeld
 have hHeld:=hHeld2
 clear hHeld2
 try simp only [Act.put,List.setIfInBounds_toArray,List.set_cons_zero,List.set_cons_succ]
 refine wpAnyH_ready (rs:=[44]) (by as_aux_lemma => kernel_rfl) (by simp) ?_
 refine AllReadyH.cons rfl (fun Kx hK => ?_) AllReadyH.nil
 go_simp
 refine (rrpsync_any (HV.out.later (K9007.out)) (HC.out.later (K9007.out)) (HT.out.later (K9007.out)) HS).mono ?_
 rintro e z9008 ⟨rfl,bz9008⟩
 have K9008:=hZq (below2Z K9007.out bz9008)
 have D9008:=hZq (heldB_up K9008.out D0.out)
 replace Qu1:=hZq (Chgs.later (Qu1.out) bz9008)
 replace Tu1:=hZq (Tab.later (Tu1.out) bz9008)
 replace Qu2:=hZq (Chgs.later (Qu2.out) bz9008)
 replace Tu2:=hZq (Tab.later (Tu2.out) bz9008)
 replace Qu3:=hZq (Chgs.later (Qu3.out) bz9008)
 replace Tu3:=hZq (Tab.later (Tu3.out) bz9008)
 replace Qu4:=hZq (Chgs.later (Qu4.out) bz9008)
 replace Tu4:=hZq (Tab.later (Tu4.out) bz9008)
 clear bz9008
 go_wp2_with fail
 refine hK.out _ _ ?_ (fun hHeld2 => ?_)
 ·exact D9008.out
 clear hK Kx hHeld
 have hHeld:=hHeld2
 clear hHeld2
 try simp only [Act.put,List.setIfInBounds_toArray,List.set_cons_zero,List.set_cons_succ]
 refine tkZ 45 ?_
 refine tkZ 46 ?_
 refine tkZ 47 ?_
 refine tkZ 48 ?_
 refine tkZ 50 ?_
 refine wpAnyH_ready (rs:=[49]) (by as_aux_lemma => kernel_rfl) (by simp) ?_
 refine AllReadyH.cons rfl (fun Kx hK => ?_) AllReadyH.nil
 go_simp
 refine (rpbound_any ca cb cd ce _).mono ?_
 rintro e z9009 ⟨rfl,bz9009⟩
 have K9009:=hZq (below2Z K9008.out bz9009)
 have D9009:=hZq (heldB_up K9009.out D0.out)
 replace Qu1:=hZq (Chgs.later (Qu1.out) bz9009)
 replace Tu1:=hZq (Tab.later (Tu1.out) bz9009)
 replace Qu2:=hZq (Chgs.later (Qu2.out) bz9009)
 replace Tu2:=hZq (Tab.later (Tu2.out) bz9009)
 replace Qu3:=hZq (Chgs.later (Qu3.out) bz9009)
 replace Tu3:=hZq (Tab.later (Tu3.out) bz9009)
 replace Qu4:=hZq (Chgs.later (Qu4.out) bz9009)
 replace Tu4:=hZq (Tab.later (Tu4.out) bz9009)
 clear bz9009
 go_wp2_with fail
 refine hK.out _ _ ?_ (fun hHeld2 => ?_)
 ·exact D9009.out
 clear hK Kx hHeld
 have hHeld:=hHeld2
 clear hHeld2
 try simp only [Act.put,List.setIfInBounds_toArray,List.set_cons_zero,List.set_cons_succ]
 refine wpAnyH_ready (rs:=[51]) (by as_aux_lemma => kernel_rfl) (by simp) ?_
 refine AllReadyH.cons rfl (fun Kx hK => ?_) AllReadyH.nil
 go_simp
 refine (rrpbound_any ca cb cd ce _).mono ?_
 rintro e z9010 ⟨rfl,bz9010⟩
 have K9010:=hZq (below2Z K9009.out bz9010)
 have D9010:=hZq (heldB_up K9010.out D0.out)
 replace Qu1:=hZq (Chgs.later (Qu1.out) bz9010)
 replace Tu1:=hZq (Tab.later (Tu1.out) bz9010)
 replace Qu2:=hZq (Chgs.later (Qu2.out) bz9010)
 replace Tu2:=hZq (Tab.later (Tu2.out) bz9010)
 replace Qu3:=hZq (Chgs.later (Qu3.out) bz9010)
 replace Tu3:=hZq (Tab.later (Tu3.out) bz9010)
 replace Qu4:=hZq (Chgs.later (Qu4.out) bz9010)
 replace Tu4:=hZq (Tab.later (Tu4.out) bz9010)
 clear bz9010
 go_wp2_with fail
 refine hK.out _ _ ?_ (fun hHeld2 => ?_)
 ·exact D9010.out
 clear hK Kx hHeld
 have hHeld:=hHeld2
 clear hHeld2
 try simp only [Act.put,List.setIfInBounds_toArray,List.set_cons_zero,List.set_cons_succ]
 refine tkZ 52 ?_
 refine tkZ 53 ?_
 refine tkZ 54 ?_
 refine wpAnyH_ready (rs:=[55]) (by as_aux_lemma => kernel_rfl) (by simp) ?_
 refine AllReadyH.cons rfl (fun Kx hK => ?_) AllReadyH.nil
 go_simp
 refine (live20 _).mono ?_
 rintro e z9011 ⟨rfl,bz9011⟩
 have K9011:=hZq (below2Z K9010.out bz9011)
 have D9011:=hZq (heldB_up K9011.out D0.out)
 replace Qu1:=hZq (Chgs.later (Qu1.out) bz9011)
 replace Tu1:=hZq (Tab.later (Tu1.out) bz9011)
 replace Qu2:=hZq (Chgs.later (Qu2.out) bz9011)
 replace Tu2:=hZq (Tab.later (Tu2.out) bz9011)
 replace Qu3:=hZq (Chgs.later (Qu3.out) bz9011)
 replace Tu3:=hZq (Tab.later (Tu3.out) bz9011)
 replace Qu4:=hZq (Chgs.later (Qu4.out) bz9011)
 replace Tu4:=hZq (Tab.later (Tu4.out) bz9011)
 clear bz9011
 go_wp2_with fail
 refine hK.out _ _ ?_ (fun hHeld2 => ?_)
 ·exact D9011.out
 clear hK Kx hHeld
 have hHeld:=hHeld2
 clear hHeld2
 try simp only [Act.put,List.setIfInBounds_toArray,List.set_cons_zero,List.set_cons_succ]
 refine tkZ 56 ?_
 refine tkZ 57 ?_
 refine wpAnyH_done (by kernel_rfl) ?_ _
 replace GB:=hZq (upQ GB.out K9011.out)
 replace XB:=hZq (upQ XB.out K9011.out)
 replace VB:=hZq (upQ VB.out K9011.out)
 replace SM:=hZq (upQ SM.out K9011.out)
 replace HV:=hZq (HV.out.later K9011.out)
 replace HC:=hZq (HC.out.later K9011.out)
 replace HT:=hZq (HT.out.later K9011.out)
 replace HB:=hZq (below2Z HB.out K9011.out)
 try clear hHeld
 try clear D0
 try clear K0
 go_wp2_with fail
 go_ret
 exact⟨rfl,HB.out⟩

theorem rro_e {w:World} {v cv vv:Value} {ql:List Chg} {ct view:List Row} (hv:Chgs w v ql) (hc:Tab w cv ct) (ht:Tab w vv view) (ca cb cd ce seq tok at' dg nn now rounds:Int) (la sn oo:Bool) (HF:Hid ((fewC ql 30 && fewT ct)=true)) (HG:Hid (fewT view=true)) (hb:¬ 12 < rounds∧¬ 1125899906842624 < now) (hlo:-9223372036854775808≤now) {xas xat xaa xad xann:Int} {xaq:List Chg} {xal xan xaoo:Bool} {xac:List Row} {xbs xbt xba xbd xbnn:Int} {xbq:List Chg} {xbl xbn xboo:Bool} {xbc:List Row} (HA:Hid (rpRound ⟨ca,cb,cd,ce⟩ view now (⟨seq,⟨ql,la⟩,⟨tok,at'⟩,sn,dg⟩,(⟨ct,nn,oo⟩ : Cli))=(⟨xas,⟨xaq,xal⟩,⟨xat,xaa⟩,xan,xad⟩,(⟨xac,xann,xaoo⟩ : Cli)))) (HBS:Hid (rpSettle ⟨ca,cb,cd,ce⟩ view (min (rounds:Int) 3000).toNat now (⟨seq,⟨ql,la⟩,⟨tok,at'⟩,sn,dg⟩,(⟨ct,nn,oo⟩ : Cli))=(⟨xbs,⟨xbq,xbl⟩,⟨xbt,xba⟩,xbn,xbd⟩,(⟨xbc,xbnn,xboo⟩ : Cli)))) (HS:Hid (rpSynced (⟨seq,⟨ql,la⟩,⟨tok,at'⟩,sn,dg⟩,(⟨ct,nn,oo⟩ : Cli)) view=false)) :
  Calls Tryz.prog 3 #[.agg #[.int .i64 ca,.int .i64 cb,.int .i64 cd,.int .i64 ce],.agg #[.int .i64 seq,v,.bool la,.int .i64 tok,.int .i64 at',.bool sn,.int .i64 dg,cv,.int .i64 nn,.bool oo],.agg #[vv,.int .i64 now,.int .i64 rounds]] w fun e w' => e=.returned (.bool true)∧Below w.heap.size w w':=by
 obtain⟨s1,s2,s3,s4⟩:=few_short HF.out
 have s5:Short view:=fun r hr => by have:=((fewT_yes HG.out).2 r hr); omega
 obtain⟨k0,k1⟩:=hb
 have gd90107:decide (12 < rounds)=false:=by rw [decide_eq_false_iff_not]; omega
 have gd15605:decide (1125899906842624 < now)=false:=by rw [decide_eq_false_iff_not]; omega
 obtain⟨qa,qc,rfl,-⟩:=hv.open'
 obtain⟨ta,tc,rfl,-⟩:=hc.open'
 obtain⟨va,vc,rfl,-⟩:=ht.open'
 obtain⟨GB,XB,VB,HB⟩:=ent3 w (.cells #[.int .i64 ca,.int .i64 cb,.int .i64 cd,.int .i64 ce] 23) (.cells #[.int .i64 seq,.slice qa ql.length qc,.bool la,.int .i64 tok,.int .i64 at',.bool sn,.int .i64 dg,.slice ta ct.length tc,.int .i64 nn,.bool oo] 35) (.cells #[.slice va view.length vc,.int .i64 now,.int .i64 rounds] 37)
 have HV:=hZq ((hv).later HB.out)
 have HC:=hZq ((hc).later HB.out)
 have HT:=hZq ((ht).later HB.out)
 clear hv hc ht
 go_enter Tryz.func3,Tryz.ntmps3
 go_wp2_with (with_reducible refine ldA aggRSide _ rfl rfl (w.heap.size+1) 0 rfl XB.out [.int .i64 seq,.slice qa ql.length qc,.bool la,.int .i64 tok,.int .i64 at',.bool sn,.int .i64 dg,.slice ta ct.length tc,.int .i64 nn,.bool oo] rfl rfl ?_)
 refine (rrpfew HV.out HC.out seq tok at' dg nn la sn oo HF).mono ?_
 rintro e w4 ⟨rfl,b4⟩
 replace GB:=hZq (upQ GB.out b4)
 replace XB:=hZq (upQ XB.out b4)
 replace VB:=hZq (upQ VB.out b4)
 replace HV:=hZq (HV.out.later b4)
 replace HC:=hZq (HC.out.later b4)
 replace HT:=hZq (HT.out.later b4)
 replace HB:=hZq (below2Z HB.out b4)
 clear b4
 have VBk0:=ckZ VB.out 0 _ rfl
 go_wp2_with fail
 clear VBk0
 refine (fewt_eqL HT.out HG).mono ?_
 rintro e w5 ⟨rfl,b5⟩
 replace GB:=hZq (upQ GB.out b5)
 replace XB:=hZq (upQ XB.out b5)
 replace VB:=hZq (upQ VB.out b5)
 replace HV:=hZq (HV.out.later b5)
 replace HC:=hZq (HC.out.later b5)
 replace HT:=hZq (HT.out.later b5)
 replace HB:=hZq (below2Z HB.out b5)
 clear b5
 have VBk1:=ckZ VB.out 1 _ rfl
 have VBk2:=ckZ VB.out 2 _ rfl
 go_wp2_with (with_reducible refine ldA aggRSide _ rfl rfl (w.heap.size+1) 0 rfl XB.out [.int .i64 seq,.slice qa ql.length qc,.bool la,.int .i64 tok,.int .i64 at',.bool sn,.int .i64 dg,.slice ta ct.length tc,.int .i64 nn,.bool oo] rfl rfl ?_)
 clear VBk1 VBk2
 refine (rpmine HV.out HC.out seq tok at' dg nn la sn oo).mono ?_
 rintro e w6 ⟨rfl,b6⟩
 replace GB:=hZq (upQ GB.out b6)
 replace XB:=hZq (upQ XB.out b6)
 replace VB:=hZq (upQ VB.out b6)
 replace HV:=hZq (HV.out.later b6)
 replace HC:=hZq (HC.out.later b6)
 replace HT:=hZq (HT.out.later b6)
 replace HB:=hZq (below2Z HB.out b6)
 clear b6
 have hsGB:=(Array.getElem?_eq_some_iff.1 GB.out).1
 have hsXB:=(Array.getElem?_eq_some_iff.1 XB.out).1
 have hsVB:=(Array.getElem?_eq_some_iff.1 VB.out).1
 have b7:=bl_newZ w6 (.cells #[.int .i64 0,.slice none 0 0,.bool false,.int .i64 0,.int .i64 0,.bool false,.int .i64 0,.slice none 0 0,.int .i64 0,.bool false] 41)
 have SM:=newQ w6 (.cells #[.int .i64 0,.slice none 0 0,.bool false,.int .i64 0,.int .i64 0,.bool false,.int .i64 0,.slice none 0 0,.int .i64 0,.bool false] 41)
 have hSM:w.heap.size≤w6.heap.size:=HB.out.size
 replace GB:=hZq (upQ GB.out b7)
 replace XB:=hZq (upQ XB.out b7)
 replace VB:=hZq (upQ VB.out b7)
 replace HV:=hZq (HV.out.later b7)
 replace HC:=hZq (HC.out.later b7)
 replace HT:=hZq (HT.out.later b7)
 replace HB:=hZq (below2Z HB.out b7)
 clear b7
 replace SM:=hZq SM
 go_wp2_with (with_reducible refine stA aggSide _ _ rfl rfl (w6.heap.size) 0 rfl SM.out [.int .i64 seq,.slice qa ql.length qc,.bool la,.int .i64 tok,.int .i64 at',.bool sn,.int .i64 dg,.slice ta ct.length tc,.int .i64 nn,.bool oo] rfl rfl (Nat.le_of_ble_eq_true rfl) rfl [.int .i64 seq,.slice qa ql.length qc,.bool la,.int .i64 tok,.int .i64 at',.bool sn,.int .i64 dg,.slice ta ct.length tc,.int .i64 nn,.bool oo] rfl ?_)
 intro w8 hst
 have HBz:=hZq (hst.bel HB.out (show w.heap.size≤w6.heap.size by omega))
 have GBz:=hZq (hst.keep GB.out (show ¬ w.heap.size=w6.heap.size by omega))
 have XBz:=hZq (hst.keep XB.out (show ¬ w.heap.size+1=w6.heap.size by omega))
 have VBz:=hZq (hst.keep VB.out (show ¬ w.heap.size+1+1=w6.heap.size by omega))
 have SMz:=hZq hst.at'
 have HVz:=hZq (Chgs.sta HV.out hst SM.out rfl)
 have HCz:=hZq (Tab.sta HC.out hst SM.out rfl)
 have HTz:=hZq (Tab.sta HT.out hst SM.out rfl)
 clear hst HB GB XB VB SM HV HC HT
 have HB:=HBz
 have GB:=GBz
 have XB:=XBz
 have VB:=VBz
 have SM:=SMz
 have HV:=HVz
 have HC:=HCz
 have HT:=HTz
 clear HBz GBz XBz VBz SMz HVz HCz HTz
 generalize w6.heap.size=BSM at SM hSM hsGB hsXB hsVB ⊢
 have dSMGB:¬ w.heap.size=BSM:=by omega
 have dSMXB:¬ w.heap.size+1=BSM:=by omega
 have dSMVB:¬ w.heap.size+1+1=BSM:=by omega
 have eSMGB:¬ BSM=w.heap.size:=by omega
 have eSMXB:¬ BSM=w.heap.size+1:=by omega
 have eSMVB:¬ BSM=w.heap.size+1+1:=by omega
 clear hsGB hsXB hsVB
 go_upto_region 4 with fail
 obtain⟨BS,hBS⟩ : ∃ BS:List (Nat × List Value),BS=[(w.heap.size,[.int .i64 ca,.int .i64 cb,.int .i64 cd,.int .i64 ce]),(w.heap.size+1,[.int .i64 seq,.slice qa ql.length qc,.bool la,.int .i64 tok,.int .i64 at',.bool sn,.int .i64 dg,.slice ta ct.length tc,.int .i64 nn,.bool oo]),(w.heap.size+1+1,[.slice va view.length vc,.int .i64 now,.int .i64 rounds]),(BSM,[.int .i64 seq,.slice qa ql.length qc,.bool la,.int .i64 tok,.int .i64 at',.bool sn,.int .i64 dg,.slice ta ct.length tc,.int .i64 nn,.bool oo])]:=⟨_,rfl⟩
 have D0:=hZq (show heldB w8 BS from by rw [hBS]; exact heldB_cons (cellsAt_block GB.out) (heldB_cons (cellsAt_block XB.out) (heldB_cons (cellsAt_block VB.out) (heldB_cons (cellsAt_block SM.out) (heldB_nil _)))))
 have hL:=heldB_at (b:=w.heap.size) (vs:=[.int .i64 ca,.int .i64 cb,.int .i64 cd,.int .i64 ce]) (bs:=BS) (by rw [hBS]; simp)
 have hq0:=hL 0 _ rfl
 have hq1:=hL 1 _ rfl
 have hq2:=hL 2 _ rfl
 have hq3:=hL 3 _ rfl
 clear hL
 have hL:=heldB_at (b:=w.heap.size+1) (vs:=[.int .i64 seq,.slice qa ql.length qc,.bool la,.int .i64 tok,.int .i64 at',.bool sn,.int .i64 dg,.slice ta ct.length tc,.int .i64 nn,.bool oo]) (bs:=BS) (by rw [hBS]; simp)
 have hq4:=hL 0 _ rfl
 have hq5:=hL 1 _ rfl
 have hq6:=hL 2 _ rfl
 have hq7:=hL 3 _ rfl
 have hq8:=hL 4 _ rfl
 have hq9:=hL 5 _ rfl
 have hq10:=hL 6 _ rfl
 have hq11:=hL 7 _ rfl
 have hq12:=hL 8 _ rfl
 have hq13:=hL 9 _ rfl
 clear hL
 have hL:=heldB_at (b:=w.heap.size+1+1) (vs:=[.slice va view.length vc,.int .i64 now,.int .i64 rounds]) (bs:=BS) (by rw [hBS]; simp)
 have hq14:=hL 0 _ rfl
 have hq15:=hL 1 _ rfl
 have hq16:=hL 2 _ rfl
 clear hL
 have hL:=heldB_at (b:=BSM) (vs:=[.int .i64 seq,.slice qa ql.length qc,.bool la,.int .i64 tok,.int .i64 at',.bool sn,.int .i64 dg,.slice ta ct.length tc,.int .i64 nn,.bool oo]) (bs:=BS) (by rw [hBS]; simp)
 have hq17:=hL 0 _ rfl
 have hq18:=hL 1 _ rfl
 have hq19:=hL 2 _ rfl
 have hq20:=hL 3 _ rfl
 have hq21:=hL 4 _ rfl
 have hq22:=hL 5 _ rfl
 have hq23:=hL 6 _ rfl
 have hq24:=hL 7 _ rfl
 have hq25:=hL 8 _ rfl
 have hq26:=hL 9 _ rfl
 clear hL
 clear hBS
 have K0:Hid (Below w8.heap.size w8 w8.drew):=hZq (Below.refl _ _).drew
 refine wp_region_held_drew (S:=(fun X => heldB X BS)) (by kernel_rfl) ?_ (fun hHeld => ?_)
 ·exact heldB_up K0.out D0.out
 generalize w8.drew=z0 at K0 hHeld ⊢
 refine tkZ 0 ?_
 refine tkZ 1 ?_
 refine tkZ 2 ?_
 refine tkZ 3 ?_
 refine tkZ 4 ?_
 refine tkZ 5 ?_
 refine tkZ 7 ?_
 refine tkZ 8 ?_
 refine tkZ 9 ?_
 refine tkZ 10 ?_
 refine tkZ 11 ?_
 refine tkZ 12 ?_
 refine wpAnyH_ready (rs:=[6]) (by as_aux_lemma => kernel_rfl) (by simp) ?_
 refine AllReadyH.cons rfl (fun Kx hK => ?_) AllReadyH.nil
 go_simp
 refine (rpround (HV.out.later (K0.out)) (HC.out.later (K0.out)) (HT.out.later (K0.out)) s1 s2 s3 s4 s5 ca cb cd ce seq tok at' dg now nn la sn oo HA).mono ?_
 rintro e z9001 ⟨u,tv,rfl,hU,hT,bz9001⟩
 have K9001:=hZq (below2Z K0.out bz9001)
 have D9001:=hZq (heldB_up K9001.out D0.out)
 obtain⟨u1ua,u1uc,rfl,-⟩:=hU.open'
 obtain⟨u1ta,u1tc,rfl,-⟩:=hT.open'
 have Qu1:=hZq hU
 have Tu1:=hZq hT
 clear hU hT
 clear bz9001
 go_wp2_with fail
 refine hK.out _ _ ?_ (fun hHeld2 => ?_)
 ·exact D9001.out
 clear hK Kx hHeld
 have hHeld:=hHeld2
 clear hHeld2
 try simp only [Act.put,List.setIfInBounds_toArray,List.set_cons_zero,List.set_cons_succ]
 refine wpAnyH_ready (rs:=[13]) (by as_aux_lemma => kernel_rfl) (by simp) ?_
 refine AllReadyH.cons rfl (fun Kx hK => ?_) AllReadyH.nil
 go_simp
 refine (rrpround (HV.out.later (K9001.out)) (HC.out.later (K9001.out)) (HT.out.later (K9001.out)) s1 s2 s3 s4 s5 ca cb cd ce seq tok at' dg now nn la sn oo HA).mono ?_
 rintro e z9002 ⟨u,tv,rfl,hU,hT,bz9002⟩
 have K9002:=hZq (below2Z K9001.out bz9002)
 have D9002:=hZq (heldB_up K9002.out D0.out)
 replace Qu1:=hZq (Chgs.later (Qu1.out) bz9002)
 replace Tu1:=hZq (Tab.later (Tu1.out) bz9002)
 obtain⟨u2ua,u2uc,rfl,-⟩:=hU.open'
 obtain⟨u2ta,u2tc,rfl,-⟩:=hT.open'
 have Qu2:=hZq hU
 have Tu2:=hZq hT
 clear hU hT
 clear bz9002
 go_wp2_with fail
 refine hK.out _ _ ?_ (fun hHeld2 => ?_)
 ·exact D9002.out
 clear hK Kx hHeld
 have hHeld:=hHeld2
 clear hHeld2
 try simp only [Act.put,List.setIfInBounds_toArray,List.set_cons_zero,List.set_cons_succ]
 refine wpAnyH_ready (rs:=[14]) (by as_aux_lemma => kernel_rfl) (by simp) ?_
 refine AllReadyH.cons rfl (fun Kx hK => ?_) AllReadyH.nil
 go_simp
 refine (rpsame_yes Qu1.out Tu1.out xas xat xaa xad xann xal xan xaoo Qu2.out Tu2.out).mono ?_
 rintro e z9003 ⟨rfl,bz9003⟩
 have K9003:=hZq (below2Z K9002.out bz9003)
 have D9003:=hZq (heldB_up K9003.out D0.out)
 replace Qu1:=hZq (Chgs.later (Qu1.out) bz9003)
 replace Tu1:=hZq (Tab.later (Tu1.out) bz9003)
 replace Qu2:=hZq (Chgs.later (Qu2.out) bz9003)
 replace Tu2:=hZq (Tab.later (Tu2.out) bz9003)
 clear bz9003
 go_wp2_with fail
 refine hK.out _ _ ?_ (fun hHeld2 => ?_)
 ·exact D9003.out
 clear hK Kx hHeld
 have hHeld:=hHeld2
 clear hHeld2
 try simp only [Act.put,List.setIfInBounds_toArray,List.set_cons_zero,List.set_cons_succ]
 refine tkZ 15 ?_
 refine tkZ 16 ?_
 refine tkZ 17 ?_
 refine tkZ 18 ?_
 refine tkZ 19 ?_
 refine tkZ 20 ?_
 refine tkZ 21 ?_
 refine tkZ 22 ?_
 refine tkZ 23 ?_
 refine tkZ 25 ?_
 refine tkZ 26 ?_
 refine tkZ 27 ?_
 refine tkZ 28 ?_
 refine tkZ 29 ?_
 refine tkZ 30 ?_
 refine tkZ 31 ?_
 refine tkZ 32 ?_
 refine wpAnyH_ready (rs:=[24]) (by as_aux_lemma => kernel_rfl) (by simp) ?_
 refine AllReadyH.cons rfl (fun Kx hK => ?_) AllReadyH.nil
 go_simp
 refine (rpsettle (HV.out.later (K9003.out)) (HC.out.later (K9003.out)) (HT.out.later (K9003.out)) s1 s2 s3 s4 s5 ca cb cd ce seq tok at' dg now nn rounds la sn oo (by omega) (by omega) HBS).mono ?_
 rintro e z9004 ⟨u,tv,rfl,hU,hT,bz9004⟩
 have K9004:=hZq (below2Z K9003.out bz9004)
 have D9004:=hZq (heldB_up K9004.out D0.out)
 replace Qu1:=hZq (Chgs.later (Qu1.out) bz9004)
 replace Tu1:=hZq (Tab.later (Tu1.out) bz9004)
 replace Qu2:=hZq (Chgs.later (Qu2.out) bz9004)
 replace Tu2:=hZq (Tab.later (Tu2.out) bz9004)
 obtain⟨u3ua,u3uc,rfl,-⟩:=hU.open'
 obtain⟨u3ta,u3tc,rfl,-⟩:=hT.open'
 have Qu3:=hZq hU
 have Tu3:=hZq hT
 clear hU hT
 clear bz9004
 go_wp2_with fail
 refine hK.out _ _ ?_ (fun hHeld2 => ?_)
 ·exact D9004.out
 clear hK Kx hHeld
 have hHeld:=hHeld2
 clear hHeld2
 try simp only [Act.put,List.setIfInBounds_toArray,List.set_cons_zero,List.set_cons_succ]
 refine wpAnyH_ready (rs:=[33]) (by as_aux_lemma => kernel_rfl) (by simp) ?_
 refine AllReadyH.cons rfl (fun Kx hK => ?_) AllReadyH.nil
 go_simp
 refine (rrpsettle (HV.out.later (K9004.out)) (HC.out.later (K9004.out)) (HT.out.later (K9004.out)) s1 s2 s3 s4 s5 ca cb cd ce seq tok at' dg now nn rounds la sn oo (by omega) (by omega) HBS).mono ?_
 rintro e z9005 ⟨u,tv,rfl,hU,hT,bz9005⟩
 have K9005:=hZq (below2Z K9004.out bz9005)
 have D9005:=hZq (heldB_up K9005.out D0.out)
 replace Qu1:=hZq (Chgs.later (Qu1.out) bz9005)
 replace Tu1:=hZq (Tab.later (Tu1.out) bz9005)
 replace Qu2:=hZq (Chgs.later (Qu2.out) bz9005)
 replace Tu2:=hZq (Tab.later (Tu2.out) bz9005)
 replace Qu3:=hZq (Chgs.later (Qu3.out) bz9005)
 replace Tu3:=hZq (Tab.later (Tu3.out) bz9005)
 obtain⟨u4ua,u4uc,rfl,-⟩:=hU.open'
 obtain⟨u4ta,u4tc,rfl,-⟩:=hT.open'
 have Qu4:=hZq hU
 have Tu4:=hZq hT
 clear hU hT
 clear bz9005
 go_wp2_with fail
 refine hK.out _ _ ?_ (fun hHeld2 => ?_)
 ·exact D9005.out
 clear hK Kx hHeld
 have hHeld:=hHeld2
 clear hHeld2
 try simp only [Act.put,List.setIfInBounds_toArray,List.set_cons_zero,List.set_cons_succ]
 refine wpAnyH_ready (rs:=[34]) (by as_aux_lemma => kernel_rfl) (by simp) ?_
 refine AllReadyH.cons rfl (fun Kx hK => ?_) AllReadyH.nil
 go_simp
 refine (rpsame_yes Qu3.out Tu3.out xbs xbt xba xbd xbnn xbl xbn xboo Qu4.out Tu4.out).mono ?_
 rintro e z9006 ⟨rfl,bz9006⟩
 have K9006:=hZq (below2Z K9005.out bz9006)
 have D9006:=hZq (heldB_up K9006.out D0.out)
 replace Qu1:=hZq (Chgs.later (Qu1.out) bz9006)
 replace Tu1:=hZq (Tab.later (Tu1.out) bz9006)
 replace Qu2:=hZq (Chgs.later (Qu2.out) bz9006)
 replace Tu2:=hZq (Tab.later (Tu2.out) bz9006)
 replace Qu3:=hZq (Chgs.later (Qu3.out) bz9006)
 replace Tu3:=hZq (Tab.later (Tu3.out) bz9006)
 replace Qu4:=hZq (Chgs.later (Qu4.out) bz9006)
 replace Tu4:=hZq (Tab.later (Tu4.out) bz9006)
 clear bz9006
 go_wp2_with fail
 refine hK.out _ _ ?_ (fun hHeld2 => ?_)
 ·exact D9006.out
 clear hK Kx hHeld
 have hHeld:=hHeld2
 clear hHeld2
 try simp only [Act.put,List.setIfInBounds_toArray,List.set_cons_zero,List.set_cons_succ]
 refine tkZ 35 ?_
 refine tkZ 36 ?_
 refine tkZ 37 ?_
 refine tkZ 38 ?_
 refine tkZ 39 ?_
 refine tkZ 41 ?_
 refine tkZ 42 ?_
 refine tkZ 43 ?_
 refine wpAnyH_ready (rs:=[40]) (by as_aux_lemma => kernel_rfl) (by simp) ?_
 refine AllReadyH.cons rfl (fun Kx hK => ?_) AllReadyH.nil
 go_simp
 refine (rpsync_any (HV.out.later (K9006.out)) (HC.out.later (K9006.out)) (HT.out.later (K9006.out)) HS).mono ?_
 rintro e z9007 ⟨rfl,bz9007⟩
 have K9007:=hZq (below2Z K9006.out bz9007)
 have D9007:=hZq (heldB_up K9007.out D0.out)
 replace Qu1:=hZq (Chgs.later (Qu1.out) bz9007)
 replace Tu1:=hZq (Tab.later (Tu1.out) bz9007)
 replace Qu2:=hZq (Chgs.later (Qu2.out) bz9007)
 replace Tu2:=hZq (Tab.later (Tu2.out) bz9007)
 replace Qu3:=hZq (Chgs.later (Qu3.out) bz9007)
 replace Tu3:=hZq (Tab.later (Tu3.out) bz9007)
 replace Qu4:=hZq (Chgs.later (Qu4.out) bz9007)
 replace Tu4:=hZq (Tab.later (Tu4.out) bz9007)
 clear bz9007
 go_wp2_with fail
 refine hK.out _ _ ?_ (fun hHeld2 => ?_)
 ·exact D9007.out
 clear hK Kx hHeld
 have hHeld:=hHeld2
 clear hHeld2
 try simp only [Act.put,List.setIfInBounds_toArray,List.set_cons_zero,List.set_cons_succ]
 refine wpAnyH_ready (rs:=[44]) (by as_aux_lemma => kernel_rfl) (by simp) ?_
 refine AllReadyH.cons rfl (fun Kx hK => ?_) AllReadyH.nil
 go_simp
 refine (rrpsync_any (HV.out.later (K9007.out)) (HC.out.later (K9007.out)) (HT.out.later (K9007.out)) HS).mono ?_
 rintro e z9008 ⟨rfl,bz9008⟩
 have K9008:=hZq (below2Z K9007.out bz9008)
 have D9008:=hZq (heldB_up K9008.out D0.out)
 replace Qu1:=hZq (Chgs.later (Qu1.out) bz9008)
 replace Tu1:=hZq (Tab.later (Tu1.out) bz9008)
 replace Qu2:=hZq (Chgs.later (Qu2.out) bz9008)
 replace Tu2:=hZq (Tab.later (Tu2.out) bz9008)
 replace Qu3:=hZq (Chgs.later (Qu3.out) bz9008)
 replace Tu3:=hZq (Tab.later (Tu3.out) bz9008)
 replace Qu4:=hZq (Chgs.later (Qu4.out) bz9008)
 replace Tu4:=hZq (Tab.later (Tu4.out) bz9008)
 clear bz9008
 go_wp2_with fail
 refine hK.out _ _ ?_ (fun hHeld2 => ?_)
 ·exact D9008.out
 clear hK Kx hHeld
 have hHeld:=hHeld2
 clear hHeld2
 try simp only [Act.put,List.setIfInBounds_toArray,List.set_cons_zero,List.set_cons_succ]
 refine tkZ 45 ?_
 refine tkZ 46 ?_
 refine tkZ 47 ?_
 refine tkZ 48 ?_
 refine tkZ 50 ?_
 refine wpAnyH_ready (rs:=[49]) (by as_aux_lemma => kernel_rfl) (by simp) ?_
 refine AllReadyH.cons rfl (fun Kx hK => ?_) AllReadyH.nil
 go_simp
 refine (rpbound_any ca cb cd ce _).mono ?_
 rintro e z9009 ⟨rfl,bz9009⟩
 have K9009:=hZq (below2Z K9008.out bz9009)
 have D9009:=hZq (heldB_up K9009.out D0.out)
 replace Qu1:=hZq (Chgs.later (Qu1.out) bz9009)
 replace Tu1:=hZq (Tab.later (Tu1.out) bz9009)
 replace Qu2:=hZq (Chgs.later (Qu2.out) bz9009)
 replace Tu2:=hZq (Tab.later (Tu2.out) bz9009)
 replace Qu3:=hZq (Chgs.later (Qu3.out) bz9009)
 replace Tu3:=hZq (Tab.later (Tu3.out) bz9009)
 replace Qu4:=hZq (Chgs.later (Qu4.out) bz9009)
 replace Tu4:=hZq (Tab.later (Tu4.out) bz9009)
 clear bz9009
 go_wp2_with fail
 refine hK.out _ _ ?_ (fun hHeld2 => ?_)
 ·exact D9009.out
 clear hK Kx hHeld
 have hHeld:=hHeld2
 clear hHeld2
 try simp only [Act.put,List.setIfInBounds_toArray,List.set_cons_zero,List.set_cons_succ]
 refine wpAnyH_ready (rs:=[51]) (by as_aux_lemma => kernel_rfl) (by simp) ?_
 refine AllReadyH.cons rfl (fun Kx hK => ?_) AllReadyH.nil
 go_simp
 refine (rrpbound_any ca cb cd ce _).mono ?_
 rintro e z9010 ⟨rfl,bz9010⟩
 have K9010:=hZq (below2Z K9009.out bz9010)
 have D9010:=hZq (heldB_up K9010.out D0.out)
 replace Qu1:=hZq (Chgs.later (Qu1.out) bz9010)
 replace Tu1:=hZq (Tab.later (Tu1.out) bz9010)
 replace Qu2:=hZq (Chgs.later (Qu2.out) bz9010)
 replace Tu2:=hZq (Tab.later (Tu2.out) bz9010)
 replace Qu3:=hZq (Chgs.later (Qu3.out) bz9010)
 replace Tu3:=hZq (Tab.later (Tu3.out) bz9010)
 replace Qu4:=hZq (Chgs.later (Qu4.out) bz9010)
 replace Tu4:=hZq (Tab.later (Tu4.out) bz9010)
 clear bz9010
 go_wp2_with fail
 refine hK.out _ _ ?_ (fun hHeld2 => ?_)
 ·exact D9010.out
 clear hK Kx hHeld
 have hHeld:=hHeld2
 clear hHeld2
 try simp only [Act.put,List.setIfInBounds_toArray,List.set_cons_zero,List.set_cons_succ]
 refine tkZ 52 ?_
 refine tkZ 53 ?_
 refine tkZ 54 ?_
 refine wpAnyH_ready (rs:=[55]) (by as_aux_lemma => kernel_rfl) (by simp) ?_
 refine AllReadyH.cons rfl (fun Kx hK => ?_) AllReadyH.nil
 go_simp
 refine (live20 _).mono ?_
 rintro e z9011 ⟨rfl,bz9011⟩
 have K9011:=hZq (below2Z K9010.out bz9011)
 have D9011:=hZq (heldB_up K9011.out D0.out)
 replace Qu1:=hZq (Chgs.later (Qu1.out) bz9011)
 replace Tu1:=hZq (Tab.later (Tu1.out) bz9011)
 replace Qu2:=hZq (Chgs.later (Qu2.out) bz9011)
 replace Tu2:=hZq (Tab.later (Tu2.out) bz9011)
 replace Qu3:=hZq (Chgs.later (Qu3.out) bz9011)
 replace Tu3:=hZq (Tab.later (Tu3.out) bz9011)
 replace Qu4:=hZq (Chgs.later (Qu4.out) bz9011)
 replace Tu4:=hZq (Tab.later (Tu4.out) bz9011)
 clear bz9011
 go_wp2_with fail
 refine hK.out _ _ ?_ (fun hHeld2 => ?_)
 ·exact D9011.out
 clear hK Kx hHeld
 have hHeld:=hHeld2
 clear hHeld2
 try simp only [Act.put,List.setIfInBounds_toArray,List.set_cons_zero,List.set_cons_succ]
 refine tkZ 56 ?_
 refine tkZ 57 ?_
 refine wpAnyH_done (by kernel_rfl) ?_ _
 replace GB:=hZq (upQ GB.out K9011.out)
 replace XB:=hZq (upQ XB.out K9011.out)
 replace VB:=hZq (upQ VB.out K9011.out)
 replace SM:=hZq (upQ SM.out K9011.out)
 replace HV:=hZq (HV.out.later K9011.out)
 replace HC:=hZq (HC.out.later K9011.out)
 replace HT:=hZq (HT.out.later K9011.out)
 replace HB:=hZq (below2Z HB.out K9011.out)
 try clear hHeld
 try clear D0
 try clear K0
 go_wp2_with fail
 go_ret
 exact⟨rfl,HB.out⟩

theorem walkRepairRounds {w:World} (c:Cfg) (_:CfgFit c) (seq:Int) (v:Value) (la:Bool) (tok at':Int) (sn:Bool) (dg:Int) (cv:Value) (nn:Int) (oo:Bool) (_:(Lit.int .i64 seq).wf=true) (hq:∃ t:List Chg,Chgs w v t) (_:(Lit.int .i64 tok).wf=true) (_:(Lit.int .i64 at').wf=true) (_:(Lit.int .i64 dg).wf=true) (hct:∃ t:List Row,Tab w cv t) (_:(Lit.int .i64 nn).wf=true) (vv:Value) (now rounds:Int) (hvt:∃ t:List Row,Tab w vv t) (i5:(Lit.int .i64 now).wf=true) (_:(Lit.int .i64 rounds).wf=true) :
  Calls Tryz.prog 3 #[.agg #[.int .i64 c.room,.int .i64 c.burst,.int .i64 c.rate,.int .i64 c.per],.agg #[.int .i64 seq,v,.bool la,.int .i64 tok,.int .i64 at',.bool sn,.int .i64 dg,cv,.int .i64 nn,.bool oo],.agg #[vv,.int .i64 now,.int .i64 rounds]] w fun e w' => e=.returned (.bool true)∧Below w.heap.size w w':=by
 obtain⟨ql,hv⟩:=hq
 obtain⟨ct,hc⟩:=hct
 obtain⟨view,ht⟩:=hvt
 cases hf:fewC ql 30 && fewT ct with
 | false => exact rro_a hv hc ht c.room c.burst c.rate c.per seq tok at' dg nn now rounds la sn oo (hZq hf)
 | true =>
  cases hg:fewT view with
  | false => exact rro_b hv hc ht c.room c.burst c.rate c.per seq tok at' dg nn now rounds la sn oo (hZq hf) (hZq hg)
  | true =>
   by_cases hb:¬ 12 < rounds∧¬ 1125899906842624 < now
   ·obtain⟨⟨⟨xas,⟨xaq,xal⟩,⟨xat,xaa⟩,xan,xad⟩,⟨xac,xann,xaoo⟩⟩,h1⟩ : ∃ x,rpRound ⟨c.room,c.burst,c.rate,c.per⟩ view now (⟨seq,⟨ql,la⟩,⟨tok,at'⟩,sn,dg⟩,(⟨ct,nn,oo⟩ : Cli))=x:=⟨_,rfl⟩
    obtain⟨⟨⟨xbs,⟨xbq,xbl⟩,⟨xbt,xba⟩,xbn,xbd⟩,⟨xbc,xbnn,xboo⟩⟩,h2⟩ : ∃ x,rpSettle ⟨c.room,c.burst,c.rate,c.per⟩ view (min (rounds:Int) 3000).toNat now (⟨seq,⟨ql,la⟩,⟨tok,at'⟩,sn,dg⟩,(⟨ct,nn,oo⟩ : Cli))=x:=⟨_,rfl⟩
    have hlo:-9223372036854775808≤now:=by
     simp [Lit.wf,IntKind.min,IntKind.max,IntKind.signed,IntKind.bits] at i5
     omega
    cases hs:rpSynced (⟨seq,⟨ql,la⟩,⟨tok,at'⟩,sn,dg⟩,(⟨ct,nn,oo⟩ : Cli)) view with
    | true => exact rro_d hv hc ht c.room c.burst c.rate c.per seq tok at' dg nn now rounds la sn oo (hZq hf) (hZq hg) hb hlo (hZq h1) (hZq h2) (hZq hs)
    | false => exact rro_e hv hc ht c.room c.burst c.rate c.per seq tok at' dg nn now rounds la sn oo (hZq hf) (hZq hg) hb hlo (hZq h1) (hZq h2) (hZq hs)
   ·exact rro_c hv hc ht c.room c.burst c.rate c.per seq tok at' dg nn now rounds la sn oo (hZq hf) (hZq hg) hb

end Go.Proofs.YtmpigdokghngiaaGreat
end

section
namespace Go.Proofs.YtmpigdokghngiaaGreat.repairRounds
open Go.ChangeShapes Go.WideShapes Go.ChangeAt Go.RowKit
open Go.ChangeMaps (open_string shut_string)
set_option linter.unusedVariables false

theorem own:ownKnob Tryz.prog.godebug=none:=by kernel_rfl
theorem laidOut:laidOutB Tryz.prog=true:=by kernel_rfl

theorem lifted (os:Os) (started:os.Started) (H:Type) (enc:TypeId × Value→H) :
  ReturnsInHanded {} Tryz.checked os 3 .any (Rows.repairRoundsSpec.pre6 enc Tryz.prog Tryz.f3 Rows.repairRoundsRow.domain false) (Rows.repairRoundsSpec.post enc Tryz.prog Tryz.f3 false true false false):=by
 refine returnsInHanded_of_change (C:=Tryz.checked) own started (by kernel_rfl) Tryz.func3
  (ChangeSpec.witness6 (enc:=enc) (C:=Tryz.checked) false ⟨#[],#[.agg #[.int .i64 0,.int .i64 0,.int .i64 0,.int .i64 0],.agg #[.int .i64 0,.slice none 0 0,.bool false,.int .i64 0,.int .i64 0,.bool false,.int .i64 0,.slice none 0 0,.int .i64 0,.bool false],.agg #[.slice none 0 0,.int .i64 0,.int .i64 0]],[]⟩ 8 (by kernel_rfl) (by kernel_rfl) (by kernel_rfl) (by kernel_rfl)) ?_
 intro W base args ds gs before hval0 hW hcnd _
 have hval:∀ (j:Nat) t v,Tryz.f3.params[j]?=some t→args[j]?=some v→Value.okWide Tryz.prog W .any base t v:=hval0
 have hW':=hW
 obtain⟨p,q,hA0,hV,rfl,hfz,hnd⟩:=hW
 have hA:DataW.TrodAll enc Tryz.prog W 0 (fun _ => true) true Tryz.f3.params.toList args.toList ds p:=hA0
 rw [Tryz.params3] at hA hval
 obtain⟨v0,vs0,d0,ds0,p0,q0,hargs,rfl,rfl,h0,r0⟩:=trodAll_cons hA
 obtain⟨v1,vs1,d1,ds1,p1,q1,rfl,rfl,rfl,h1,r1⟩:=trodAll_cons r0
 obtain⟨v2,vs2,d2,ds2,p2,q2,rfl,rfl,rfl,h2,r2⟩:=trodAll_cons r1
 obtain⟨rfl,rfl,rfl⟩:=trodAll_nil r2
 obtain rfl:args=#[v0,v1,v2]:=by cases args; simp_all
 obtain⟨rfl,rfl⟩:=trodVars_none hV
 have k0:=h0
 have lt0:∀ x ∈ p0,x.block < W.heap.size:=by obtain⟨m,hm⟩:=k0; exact DataW.trod_lt m _ _ _ hm
 obtain⟨a0,rfl,w0⟩:=open_cfg (hval 0 23 v0 rfl rfl) h0
 have k1:=h1
 have lt1:∀ x ∈ p1,x.block < W.heap.size:=by obtain⟨m,hm⟩:=k1; exact DataW.trod_lt m _ _ _ hm
 obtain⟨g1_0,g1_1,g1_2,g1_3,g1_4,g1_5,g1_6,g1_7,g1_8,g1_9,rfl,y1_0,y1_1,y1_2,y1_3,y1_4,y1_5,y1_6⟩:=open_rside (hval 1 35 v1 rfl rfl) h1
 have k2:=h2
 have lt2:∀ x ∈ p2,x.block < W.heap.size:=by obtain⟨m,hm⟩:=k2; exact DataW.trod_lt m _ _ _ hm
 obtain⟨g2_0,g2_1,g2_2,rfl,y2_0,y2_1,y2_2⟩:=open_rview (hval 2 37 v2 rfl rfl) h2
 clear hA0 hval0
 refine (walkRepairRounds (w:=W) a0 w0 g1_0 g1_1 g1_2 g1_3 g1_4 g1_5 g1_6 g1_7 g1_8 g1_9 y1_0 y1_1 y1_2 y1_3 y1_4 y1_5 y1_6 g2_0 g2_1 g2_2 y2_0 y2_1 y2_2).mono fun e W' ⟨he,bel⟩ => ?_
 subst he
 exact⟨_,rfl,_,_,_,[],_,[],hW',trodAll_mk1 (shut_bool Tryz.underlying4 _),(trodAll_cons_mk (Below.trod laidOut (by kernel_rfl) (of_decide_eq_true (by kernel_rfl)) k0 bel lt0) (trodAll_cons_mk (Below.trod laidOut (by kernel_rfl) (of_decide_eq_true (by kernel_rfl)) k1 bel lt1) (trodAll_cons_mk (Below.trod laidOut (by kernel_rfl) (of_decide_eq_true (by kernel_rfl)) k2 bel lt2) trodAll_mk0))),rfl,bel.frame _,fun h => by cases h⟩

theorem over:Rows.repairRoundsRow.holds Tryz.pinned (OpenSpec.ofChange Rows.repairRoundsSpec) :=
 OpenClaim.holds_of_wide 3 Tryz.f3 rfl rfl rfl rfl rfl rfl rfl ⟨rfl,rfl,rfl,rfl,rfl⟩ rfl rfl rfl rfl rfl (by kernel_rfl) Tryz.func3 (by kernel_rfl)
  (of_decide_eq_true (by kernel_rfl)) (by unfold Func.isWrapper; first | (rw [if_pos (by decide +kernel)]; kernel_rfl) | (rw [if_neg (by decide +kernel)]; exact⟨rfl,rfl⟩))
  (fun os started H enc _ => lifted os started H enc)

theorem proved:Rows.RepairRoundsSaid:=over
#print axioms proved
end Go.Proofs.YtmpigdokghngiaaGreat.repairRounds
end
