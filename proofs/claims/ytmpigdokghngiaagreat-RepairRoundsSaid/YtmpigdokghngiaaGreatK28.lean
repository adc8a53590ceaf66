/-
 TEXTS OF THE PROOF, one behind the other: LnkREmit.
-/
import Derived.Test.YtmpigdokghngiaaGreatK05
import Derived.Test.YtmpigdokghngiaaGreatK27
import Derived.Test.YtmpigdokghngiaaGreatK20
import Derived.Test.YtmpigdokghngiaaGreatK24
import Derived.Test.YtmpigdokghngiaaGreatK02
import Derived.Deep.Cut

set_option maxHeartbeats 12800000
set_option maxRecDepth 100000

namespace Go.Proofs.YtmpigdokghngiaaGreat
open Go.RowKit

set_option linter.unusedSimpArgs false
set_option linter.unusedVariables false

theorem rlemit_r1 {w:World} {v vt:Value} {ql:List Chg} {view:List Row} (hv:Chgs w v ql) (ht:Tab w vt view) (hs:ShortC ql) (hl:ql.length≤100) (hsh:Short view) (ca cb cd ce seq tok at' dg now:Int) (la sn:Bool) (h1:Hid (lnMay ⟨ca,cb,cd,ce⟩ ⟨seq,⟨ql,la⟩,⟨tok,at'⟩,sn,dg⟩=false)) :
  Calls Tryz.prog 42 #[.agg #[.int .i64 ca,.int .i64 cb,.int .i64 cd,.int .i64 ce],.agg #[.int .i64 seq,v,.bool la,.int .i64 tok,.int .i64 at',.bool sn,.int .i64 dg],vt,.int .i64 now] w (EmittedR w ⟨seq,⟨ql,la⟩,⟨tok,at'⟩,sn,dg⟩ []):=by
 obtain⟨qn,hqn⟩ : ∃ n,ql.length=n:=⟨_,rfl⟩
 obtain⟨ao,cap,rfl⟩:=chgs_shape hv hqn
 obtain⟨CB,LB,RB,HB⟩:=ent3 w (.cells #[.int .i64 ca,.int .i64 cb,.int .i64 cd,.int .i64 ce] 23) (.cells #[.int .i64 seq,.slice ao qn cap,.bool la,.int .i64 tok,.int .i64 at',.bool sn,.int .i64 dg] 30) (.cells #[.int .i64 0,.slice none 0 0,.bool false,.int .i64 0,.int .i64 0,.bool false,.int .i64 0] 30)
 have V:=hZq (hv.later HB.out)
 have T:=hZq (ht.later HB.out)
 have hle1:w.heap.size≤w.heap.size+1:=Nat.le_succ _
 have hle2:w.heap.size≤w.heap.size+1+1:=by omega
 have KQ0:Hid (KQR w (((w.alloc (.cells #[.int .i64 ca,.int .i64 cb,.int .i64 cd,.int .i64 ce] 23)).alloc (.cells #[.int .i64 seq,.slice ao qn cap,.bool la,.int .i64 tok,.int .i64 at',.bool sn,.int .i64 dg] 30)).alloc (.cells #[.int .i64 0,.slice none 0 0,.bool false,.int .i64 0,.int .i64 0,.bool false,.int .i64 0] 30)) (.slice ao qn cap) ql):=hZq (fun X hX => hv.later hX)
 have HS:=hZq hs
 have HH:=hZq hsh
 clear hs hsh
 have CBo:=blk4 CB.out
 have LBo:=blk7 LB.out
 go_enter Tryz.func42,Tryz.ntmps42
 go_wp2_with fail
 clear CBo LBo
 refine (rlmay_any V.out HS.out hl la sn seq tok at' dg ca cb cd ce h1).mono ?_
 rintro e w4 ⟨rfl,b4⟩
 replace CB:=hZq (upQ CB.out b4)
 replace LB:=hZq (upQ LB.out b4)
 replace RB:=hZq (upQ RB.out b4)
 replace V:=hZq (V.out.later b4)
 replace T:=hZq (T.out.later b4)
 replace KQ0:=hZq (KQR.later KQ0.out b4)
 replace HB:=hZq (below2Z HB.out b4)
 clear b4
 have LBo:=blk7 LB.out
 have RBo:=blk7 RB.out
 go_wp2_with fail
 have hz:=stN7_heap RB.out (.int .i64 seq) (.slice ao qn cap) (.bool la) (.int .i64 tok) (.int .i64 at') (.bool sn) (.int .i64 dg)
 have KQz:=KQ0.out.past RB.out (by decide) (fun k hk => stN7_far w4 (w.heap.size+1+1) (.int .i64 seq) (.slice ao qn cap) (.bool la) (.int .i64 tok) (.int .i64 at') (.bool sn) (.int .i64 dg) hk)
 have KFz:=kg_nil w (stN7 w4 (w.heap.size+1+1) (.int .i64 seq) (.slice ao qn cap) (.bool la) (.int .i64 tok) (.int .i64 at') (.bool sn) (.int .i64 dg))
 have HBz:=stN7_below HB.out hle2 (.int .i64 seq) (.slice ao qn cap) (.bool la) (.int .i64 tok) (.int .i64 at') (.bool sn) (.int .i64 dg)
 obtain⟨⟨z0,z1,z2,z3,z4,z5,z6⟩,-⟩:=blk7 hz
 unfold stN7 at z0 z1 z2 z3 z4 z5 z6
 refine bodyPost_ret (v:=.tuple #[.agg #[.int .i64 seq,.slice ao qn cap,.bool la,.int .i64 tok,.int .i64 at',.bool sn,.int .i64 dg],.slice none 0 0]) (by simp [results,Tryz.results42,go_sem,z0,z1,z2,z3,z4,z5,z6]) rfl ⟨_,_,[],rfl,KQz.chgs HBz,KFz,rfl,HBz⟩

theorem rlemit_r2 {w:World} {v vt:Value} {ql:List Chg} {view:List Row} (hv:Chgs w v ql) (ht:Tab w vt view) (hs:ShortC ql) (hl:ql.length≤100) (hsh:Short view) (ca cb cd ce seq tok at' dg now:Int) (la sn:Bool) (h1:Hid (lnMay ⟨ca,cb,cd,ce⟩ ⟨seq,⟨ql,la⟩,⟨tok,at'⟩,sn,dg⟩=true)) (h2:Hid (diMay view=false)) :
  Calls Tryz.prog 42 #[.agg #[.int .i64 ca,.int .i64 cb,.int .i64 cd,.int .i64 ce],.agg #[.int .i64 seq,v,.bool la,.int .i64 tok,.int .i64 at',.bool sn,.int .i64 dg],vt,.int .i64 now] w (EmittedR w ⟨seq,⟨ql,la⟩,⟨tok,at'⟩,sn,dg⟩ []):=by
 obtain⟨qn,hqn⟩ : ∃ n,ql.length=n:=⟨_,rfl⟩
 obtain⟨ao,cap,rfl⟩:=chgs_shape hv hqn
 obtain⟨CB,LB,RB,HB⟩:=ent3 w (.cells #[.int .i64 ca,.int .i64 cb,.int .i64 cd,.int .i64 ce] 23) (.cells #[.int .i64 seq,.slice ao qn cap,.bool la,.int .i64 tok,.int .i64 at',.bool sn,.int .i64 dg] 30) (.cells #[.int .i64 0,.slice none 0 0,.bool false,.int .i64 0,.int .i64 0,.bool false,.int .i64 0] 30)
 have V:=hZq (hv.later HB.out)
 have T:=hZq (ht.later HB.out)
 have hle1:w.heap.size≤w.heap.size+1:=Nat.le_succ _
 have hle2:w.heap.size≤w.heap.size+1+1:=by omega
 have KQ0:Hid (KQR w (((w.alloc (.cells #[.int .i64 ca,.int .i64 cb,.int .i64 cd,.int .i64 ce] 23)).alloc (.cells #[.int .i64 seq,.slice ao qn cap,.bool la,.int .i64 tok,.int .i64 at',.bool sn,.int .i64 dg] 30)).alloc (.cells #[.int .i64 0,.slice none 0 0,.bool false,.int .i64 0,.int .i64 0,.bool false,.int .i64 0] 30)) (.slice ao qn cap) ql):=hZq (fun X hX => hv.later hX)
 have HS:=hZq hs
 have HH:=hZq hsh
 clear hs hsh
 have CBo:=blk4 CB.out
 have LBo:=blk7 LB.out
 go_enter Tryz.func42,Tryz.ntmps42
 go_wp2_with fail
 clear CBo LBo
 refine (rlmay_any V.out HS.out hl la sn seq tok at' dg ca cb cd ce h1).mono ?_
 rintro e w4 ⟨rfl,b4⟩
 replace CB:=hZq (upQ CB.out b4)
 replace LB:=hZq (upQ LB.out b4)
 replace RB:=hZq (upQ RB.out b4)
 replace V:=hZq (V.out.later b4)
 replace T:=hZq (T.out.later b4)
 replace KQ0:=hZq (KQR.later KQ0.out b4)
 replace HB:=hZq (below2Z HB.out b4)
 clear b4
 go_wp2_with fail
 refine (rdimay_eq T.out HH.out h2).mono ?_
 rintro e w5 ⟨rfl,b5⟩
 replace CB:=hZq (upQ CB.out b5)
 replace LB:=hZq (upQ LB.out b5)
 replace RB:=hZq (upQ RB.out b5)
 replace V:=hZq (V.out.later b5)
 replace T:=hZq (T.out.later b5)
 replace KQ0:=hZq (KQR.later KQ0.out b5)
 replace HB:=hZq (below2Z HB.out b5)
 clear b5
 have LBo:=blk7 LB.out
 have RBo:=blk7 RB.out
 go_wp2_with fail
 have hz:=stN7_heap RB.out (.int .i64 seq) (.slice ao qn cap) (.bool la) (.int .i64 tok) (.int .i64 at') (.bool sn) (.int .i64 dg)
 have KQz:=KQ0.out.past RB.out (by decide) (fun k hk => stN7_far w5 (w.heap.size+1+1) (.int .i64 seq) (.slice ao qn cap) (.bool la) (.int .i64 tok) (.int .i64 at') (.bool sn) (.int .i64 dg) hk)
 have KFz:=kg_nil w (stN7 w5 (w.heap.size+1+1) (.int .i64 seq) (.slice ao qn cap) (.bool la) (.int .i64 tok) (.int .i64 at') (.bool sn) (.int .i64 dg))
 have HBz:=stN7_below HB.out hle2 (.int .i64 seq) (.slice ao qn cap) (.bool la) (.int .i64 tok) (.int .i64 at') (.bool sn) (.int .i64 dg)
 obtain⟨⟨z0,z1,z2,z3,z4,z5,z6⟩,-⟩:=blk7 hz
 unfold stN7 at z0 z1 z2 z3 z4 z5 z6
 refine bodyPost_ret (v:=.tuple #[.agg #[.int .i64 seq,.slice ao qn cap,.bool la,.int .i64 tok,.int .i64 at',.bool sn,.int .i64 dg],.slice none 0 0]) (by simp [results,Tryz.results42,go_sem,z0,z1,z2,z3,z4,z5,z6]) rfl ⟨_,_,[],rfl,KQz.chgs HBz,KFz,rfl,HBz⟩

theorem rlemit_r3 {w:World} {v vt:Value} {ql:List Chg} {view:List Row} (hv:Chgs w v ql) (ht:Tab w vt view) (hs:ShortC ql) (hl:ql.length≤100) (hsh:Short view) (ca cb cd ce seq tok at' dg now:Int) (la sn:Bool) (h1:Hid (lnMay ⟨ca,cb,cd,ce⟩ ⟨seq,⟨ql,la⟩,⟨tok,at'⟩,sn,dg⟩=true)) (h2:Hid (diMay view=true)) (h3:Hid (pcTime now=false)) :
  Calls Tryz.prog 42 #[.agg #[.int .i64 ca,.int .i64 cb,.int .i64 cd,.int .i64 ce],.agg #[.int .i64 seq,v,.bool la,.int .i64 tok,.int .i64 at',.bool sn,.int .i64 dg],vt,.int .i64 now] w (EmittedR w ⟨seq,⟨ql,la⟩,⟨tok,at'⟩,sn,dg⟩ []):=by
 obtain⟨qn,hqn⟩ : ∃ n,ql.length=n:=⟨_,rfl⟩
 obtain⟨ao,cap,rfl⟩:=chgs_shape hv hqn
 obtain⟨CB,LB,RB,HB⟩:=ent3 w (.cells #[.int .i64 ca,.int .i64 cb,.int .i64 cd,.int .i64 ce] 23) (.cells #[.int .i64 seq,.slice ao qn cap,.bool la,.int .i64 tok,.int .i64 at',.bool sn,.int .i64 dg] 30) (.cells #[.int .i64 0,.slice none 0 0,.bool false,.int .i64 0,.int .i64 0,.bool false,.int .i64 0] 30)
 have V:=hZq (hv.later HB.out)
 have T:=hZq (ht.later HB.out)
 have hle1:w.heap.size≤w.heap.size+1:=Nat.le_succ _
 have hle2:w.heap.size≤w.heap.size+1+1:=by omega
 have KQ0:Hid (KQR w (((w.alloc (.cells #[.int .i64 ca,.int .i64 cb,.int .i64 cd,.int .i64 ce] 23)).alloc (.cells #[.int .i64 seq,.slice ao qn cap,.bool la,.int .i64 tok,.int .i64 at',.bool sn,.int .i64 dg] 30)).alloc (.cells #[.int .i64 0,.slice none 0 0,.bool false,.int .i64 0,.int .i64 0,.bool false,.int .i64 0] 30)) (.slice ao qn cap) ql):=hZq (fun X hX => hv.later hX)
 have HS:=hZq hs
 have HH:=hZq hsh
 clear hs hsh
 have CBo:=blk4 CB.out
 have LBo:=blk7 LB.out
 go_enter Tryz.func42,Tryz.ntmps42
 go_wp2_with fail
 clear CBo LBo
 refine (rlmay_any V.out HS.out hl la sn seq tok at' dg ca cb cd ce h1).mono ?_
 rintro e w4 ⟨rfl,b4⟩
 replace CB:=hZq (upQ CB.out b4)
 replace LB:=hZq (upQ LB.out b4)
 replace RB:=hZq (upQ RB.out b4)
 replace V:=hZq (V.out.later b4)
 replace T:=hZq (T.out.later b4)
 replace KQ0:=hZq (KQR.later KQ0.out b4)
 replace HB:=hZq (below2Z HB.out b4)
 clear b4
 go_wp2_with fail
 refine (rdimay_eq T.out HH.out h2).mono ?_
 rintro e w5 ⟨rfl,b5⟩
 replace CB:=hZq (upQ CB.out b5)
 replace LB:=hZq (upQ LB.out b5)
 replace RB:=hZq (upQ RB.out b5)
 replace V:=hZq (V.out.later b5)
 replace T:=hZq (T.out.later b5)
 replace KQ0:=hZq (KQR.later KQ0.out b5)
 replace HB:=hZq (below2Z HB.out b5)
 clear b5
 go_wp2_with fail
 refine (rptime_eqL now h3 _).mono ?_
 rintro e w6 ⟨rfl,b6⟩
 replace CB:=hZq (upQ CB.out b6)
 replace LB:=hZq (upQ LB.out b6)
 replace RB:=hZq (upQ RB.out b6)
 replace V:=hZq (V.out.later b6)
 replace T:=hZq (T.out.later b6)
 replace KQ0:=hZq (KQR.later KQ0.out b6)
 replace HB:=hZq (below2Z HB.out b6)
 clear b6
 have LBo:=blk7 LB.out
 have RBo:=blk7 RB.out
 go_wp2_with fail
 have hz:=stN7_heap RB.out (.int .i64 seq) (.slice ao qn cap) (.bool la) (.int .i64 tok) (.int .i64 at') (.bool sn) (.int .i64 dg)
 have KQz:=KQ0.out.past RB.out (by decide) (fun k hk => stN7_far w6 (w.heap.size+1+1) (.int .i64 seq) (.slice ao qn cap) (.bool la) (.int .i64 tok) (.int .i64 at') (.bool sn) (.int .i64 dg) hk)
 have KFz:=kg_nil w (stN7 w6 (w.heap.size+1+1) (.int .i64 seq) (.slice ao qn cap) (.bool la) (.int .i64 tok) (.int .i64 at') (.bool sn) (.int .i64 dg))
 have HBz:=stN7_below HB.out hle2 (.int .i64 seq) (.slice ao qn cap) (.bool la) (.int .i64 tok) (.int .i64 at') (.bool sn) (.int .i64 dg)
 obtain⟨⟨z0,z1,z2,z3,z4,z5,z6⟩,-⟩:=blk7 hz
 unfold stN7 at z0 z1 z2 z3 z4 z5 z6
 refine bodyPost_ret (v:=.tuple #[.agg #[.int .i64 seq,.slice ao qn cap,.bool la,.int .i64 tok,.int .i64 at',.bool sn,.int .i64 dg],.slice none 0 0]) (by simp [results,Tryz.results42,go_sem,z0,z1,z2,z3,z4,z5,z6]) rfl ⟨_,_,[],rfl,KQz.chgs HBz,KFz,rfl,HBz⟩

theorem rlemit_in {w:World} {v vt:Value} {ql:List Chg} {view:List Row} (hv:Chgs w v ql) (ht:Tab w vt view) (hs:ShortC ql) (hl:ql.length≤100) (hsh:Short view) (ca cb cd ce seq tok at' dg now:Int) (la sn:Bool) (h1:Hid (lnMay ⟨ca,cb,cd,ce⟩ ⟨seq,⟨ql,la⟩,⟨tok,at'⟩,sn,dg⟩=true)) (h2:Hid (diMay view=true)) (h3:Hid (pcTime now=true)) {M:Lnk} {fs:List Frm} (hr:Hid (lnRun ⟨ca,cb,cd,ce⟩ view now 65 ⟨seq,⟨ql,la⟩,⟨tok,at'⟩,sn,dg⟩=(M,fs))) :
  Calls Tryz.prog 42 #[.agg #[.int .i64 ca,.int .i64 cb,.int .i64 cd,.int .i64 ce],.agg #[.int .i64 seq,v,.bool la,.int .i64 tok,.int .i64 at',.bool sn,.int .i64 dg],vt,.int .i64 now] w (EmittedR w M fs):=by
 obtain⟨qn,hqn⟩ : ∃ n,ql.length=n:=⟨_,rfl⟩
 obtain⟨ao,cap,rfl⟩:=chgs_shape hv hqn
 obtain⟨CB,LB,RB,HB⟩:=ent3 w (.cells #[.int .i64 ca,.int .i64 cb,.int .i64 cd,.int .i64 ce] 23) (.cells #[.int .i64 seq,.slice ao qn cap,.bool la,.int .i64 tok,.int .i64 at',.bool sn,.int .i64 dg] 30) (.cells #[.int .i64 0,.slice none 0 0,.bool false,.int .i64 0,.int .i64 0,.bool false,.int .i64 0] 30)
 have V:=hZq (hv.later HB.out)
 have T:=hZq (ht.later HB.out)
 have hle1:w.heap.size≤w.heap.size+1:=Nat.le_succ _
 have hle2:w.heap.size≤w.heap.size+1+1:=by omega
 have KQ0:Hid (KQR w (((w.alloc (.cells #[.int .i64 ca,.int .i64 cb,.int .i64 cd,.int .i64 ce] 23)).alloc (.cells #[.int .i64 seq,.slice ao qn cap,.bool la,.int .i64 tok,.int .i64 at',.bool sn,.int .i64 dg] 30)).alloc (.cells #[.int .i64 0,.slice none 0 0,.bool false,.int .i64 0,.int .i64 0,.bool false,.int .i64 0] 30)) (.slice ao qn cap) ql):=hZq (fun X hX => hv.later hX)
 have HS:=hZq hs
 have HH:=hZq hsh
 obtain⟨vn,hvn⟩ : ∃ n,view.length=n:=⟨_,rfl⟩
 have HVN:=hZq hvn
 obtain⟨ta,tc,rfl⟩:=tab_shapeL ht hvn
 have HT:Hid (∀ X,Below w.heap.size w X→Tab X (.slice ta vn tc) view):=hZq (fun X hX => ht.later hX)
 obtain⟨hn0,hn1⟩:=pcTime_iff.1 h3.out
 have HE0:=hZq (emp_start (view:=view) (now:=now) h1.out)
 clear hs hsh hv ht hvn hqn
 have CBo:=blk4 CB.out
 have LBo:=blk7 LB.out
 go_enter Tryz.func42,Tryz.ntmps42
 go_wp2_with fail
 clear CBo LBo
 refine (rlmay_any V.out HS.out hl la sn seq tok at' dg ca cb cd ce h1).mono ?_
 rintro e w4 ⟨rfl,b4⟩
 replace CB:=hZq (upQ CB.out b4)
 replace LB:=hZq (upQ LB.out b4)
 replace RB:=hZq (upQ RB.out b4)
 replace V:=hZq (V.out.later b4)
 replace T:=hZq (T.out.later b4)
 replace KQ0:=hZq (KQR.later KQ0.out b4)
 replace HB:=hZq (below2Z HB.out b4)
 clear b4
 go_wp2_with fail
 refine (rdimay_eq T.out HH.out h2).mono ?_
 rintro e w5 ⟨rfl,b5⟩
 replace CB:=hZq (upQ CB.out b5)
 replace LB:=hZq (upQ LB.out b5)
 replace RB:=hZq (upQ RB.out b5)
 replace V:=hZq (V.out.later b5)
 replace T:=hZq (T.out.later b5)
 replace KQ0:=hZq (KQR.later KQ0.out b5)
 replace HB:=hZq (below2Z HB.out b5)
 clear b5
 go_wp2_with fail
 refine (rptime_eqL now h3 _).mono ?_
 rintro e w6 ⟨rfl,b6⟩
 replace CB:=hZq (upQ CB.out b6)
 replace LB:=hZq (upQ LB.out b6)
 replace RB:=hZq (upQ RB.out b6)
 replace V:=hZq (V.out.later b6)
 replace T:=hZq (T.out.later b6)
 replace KQ0:=hZq (KQR.later KQ0.out b6)
 replace HB:=hZq (below2Z HB.out b6)
 clear b6
 go_wp2_with fail
 clear V
 clear T
 clear HS hl
 have KF0:=hZq (kg_nil w w6)
 obtain⟨L0,hL0⟩ : ∃ L:Lnk,L=⟨seq,⟨ql,la⟩,⟨tok,at'⟩,sn,dg⟩:=⟨_,rfl⟩
 have HR:Hid (lnRun ⟨ca,cb,cd,ce⟩ view now 65 L0=(M,fs)):=hZq (by rw [hL0]; exact hr.out)
 have HE:Hid (EmP ⟨ca,cb,cd,ce⟩ view now L0 ⟨seq,⟨ql,la⟩,⟨tok,at'⟩,sn,dg⟩ 65 []):=hZq (by rw [hL0]; exact HE0.out)
 clear hL0 hr HE0 h1
 go_loopw [10] (fun fr wr => ∃ (seq tok at' dg:Int) (sn la:Bool) (ql:List Chg) (qa:Option Addr) (qn qc:Nat) (ps:List FrS) (fa:Option Addr) (fc n:Nat),fr=.slice fa ps.length fc∧Hid (EmP ⟨ca,cb,cd,ce⟩ view now L0 ⟨seq,⟨ql,la⟩,⟨tok,at'⟩,sn,dg⟩ n (ps.map FrS.f))∧Hid (wr.heap[w.heap.size]?=some (.cells #[.int .i64 ca,.int .i64 cb,.int .i64 cd,.int .i64 ce] 23 (0,0)))∧Hid (wr.heap[w.heap.size+1]?=some (.cells #[.int .i64 seq,.slice qa qn qc,.bool la,.int .i64 tok,.int .i64 at',.bool sn,.int .i64 dg] 30 (0,0)))∧Hid (wr.heap[w.heap.size+1+1]?=some (.cells #[.int .i64 0,.slice none 0 0,.bool false,.int .i64 0,.int .i64 0,.bool false,.int .i64 0] 30 (0,0)))∧Hid (KQR w wr (.slice qa qn qc) ql)∧Hid (KG w wr fr ps)∧Hid (Below w.heap.size w wr)) (fun fr _ => 70 - slLen fr)
 case atStart => exact⟨seq,tok,at',dg,sn,la,ql,ao,qn,cap,[],none,0,65,rfl,HE,CB,LB,RB,KQ0,KF0,HB⟩
 case round =>
  clear CB LB RB KQ0 KF0 HB HE
  obtain⟨seq,tok,at',dg,sn,la,ql,qa,qn,qc,ps,fa,fc,n,rfl,HE,CB,LB,RB,KQ0,KF0,HB⟩:=hrel
  obtain⟨hsc,hql,hs0,hs1,hd0,hd1⟩:=lnMay_short HE.out.1
  have hmy:=lnMay_iff.1 HE.out.1
  simp only at hsc hql hs0 hs1 hd0 hd1 hmy
  replace hsc:=hZq hsc
  have HMY:=hZq (show la=false∧(sn=true→ql=[]) from ⟨hmy.2.2.2.2.1,hmy.2.2.2.2.2.2⟩)
  clear hmy
  have hle3:w.heap.size≤w.heap.size+1:=Nat.le_succ _
  have hwr:=HB.out.size
  have HBr:=hZq (Below.refl wr.heap.size wr)
  have KFr:=KF0
  obtain⟨qn2,hqn2⟩ : ∃ n,ql.length=n:=⟨_,rfl⟩
  obtain⟨xa0,xc0,hqe⟩:=chgs_shape (KQ0.out.chgs HB.out) hqn2
  have hqe2:qn=qn2:=by cases hqe; rfl
  subst hqe2
  have HQN:=hZq hqn2
  clear hqe hqn2 xa0 xc0
  by_cases hsq:seq < 1099511627776
  case neg =>
   have t1:decide (seq < 1099511627776)=false:=by simp; omega
   have LBo:=blk7 LB.out
   have RBo:=blk7 RB.out
   go_upto_region 28 with fail
   clear LBo RBo t1
   have hend:=emp_end HE.out (stp_seq (by show _≤seq; omega))
   rw [HR.out] at hend
   simp only [Prod.mk.injEq] at hend
   obtain⟨rfl,rfl⟩:=hend
   clear HE HR
   have LBo:=blk7 LB.out
   have RBo:=blk7 RB.out
   go_wp2_with fail
   have hz:=stN7_heap RB.out (.int .i64 seq) (.slice qa qn qc) (.bool la) (.int .i64 tok) (.int .i64 at') (.bool sn) (.int .i64 dg)
   have KQz:=KQ0.out.past RB.out (by decide) (fun k hk => stN7_far wr (w.heap.size+1+1) (.int .i64 seq) (.slice qa qn qc) (.bool la) (.int .i64 tok) (.int .i64 at') (.bool sn) (.int .i64 dg) hk)
   have KFz:=KF0.out.past RB.out (by decide) (fun k hk => stN7_far wr (w.heap.size+1+1) (.int .i64 seq) (.slice qa qn qc) (.bool la) (.int .i64 tok) (.int .i64 at') (.bool sn) (.int .i64 dg) hk)
   have HBz:=stN7_below HB.out hle2 (.int .i64 seq) (.slice qa qn qc) (.bool la) (.int .i64 tok) (.int .i64 at') (.bool sn) (.int .i64 dg)
   obtain⟨⟨z0,z1,z2,z3,z4,z5,z6⟩,-⟩:=blk7 hz
   unfold stN7 at z0 z1 z2 z3 z4 z5 z6
   refine bodyPost_ret (v:=.tuple #[.agg #[.int .i64 seq,.slice qa qn qc,.bool la,.int .i64 tok,.int .i64 at',.bool sn,.int .i64 dg],.slice fa ps.length fc]) (by simp [results,Tryz.results42,go_sem,z0,z1,z2,z3,z4,z5,z6]) rfl ⟨_,_,ps,rfl,KQz.chgs HBz,KFz,rfl,HBz⟩
  have t1:decide (seq < 1099511627776)=true:=by simp; omega
  have hw1:IntKind.i64.wrap (seq+1)=seq+1:=IntWalk.i64_in _ (by omega)
  obtain⟨⟨⟨bx,bt⟩,is⟩,hp⟩ : ∃ p,pcTake ⟨ca,cb,cd,ce⟩ ⟨tok,at'⟩ now=p:=⟨_,rfl⟩
  have HP:=hZq hp
  clear hp
  cases sn with
  | true =>
   obtain⟨rfl,hqq⟩:=HMY.out
   obtain rfl:=hqq rfl
   clear hqq HMY
   have CBo:=blk4 CB.out
   have LBo:=blk7 LB.out
   go_wp2_with fail
   clear CBo LBo t1
   refine (rptake_any ca cb cd ce tok at' now HP _).mono ?_
   rintro e w101 ⟨rfl,b101⟩
   replace CB:=hZq (upQ CB.out b101)
   replace LB:=hZq (upQ LB.out b101)
   replace RB:=hZq (upQ RB.out b101)
   replace KQ0:=hZq (KQR.later KQ0.out b101)
   replace KF0:=hZq (KG.later KF0.out b101)
   replace HB:=hZq (below2Z HB.out b101)
   clear b101
   cases is with
   | false =>
    have b152:=bl_newZ w101 (.cells #[.int .i64 bx,.int .i64 bt] 28)
    have XB:=newQ w101 (.cells #[.int .i64 bx,.int .i64 bt] 28)
    have hXB:w.heap.size≤w101.heap.size:=HB.out.size
    replace CB:=hZq (upQ CB.out b152)
    replace LB:=hZq (upQ LB.out b152)
    replace RB:=hZq (upQ RB.out b152)
    replace KQ0:=hZq (KQR.later KQ0.out b152)
    replace KF0:=hZq (KG.later KF0.out b152)
    replace HB:=hZq (below2Z HB.out b152)
    clear b152
    replace XB:=hZq XB
    go_upto_region 28 with fail
    generalize w101.alloc (.cells #[.int .i64 bx,.int .i64 bt] 28)=w153 at CB LB RB XB KQ0 KF0 HB ⊢
    have hend:=emp_end HE.out (stp_tok HP.out)
    rw [HR.out] at hend
    simp only [Prod.mk.injEq] at hend
    obtain⟨rfl,rfl⟩:=hend
    clear HE HR
    have LBo:=blk7 LB.out
    have RBo:=blk7 RB.out
    go_wp2_with fail
    have hz:=stN7_heap RB.out (.int .i64 seq) (.slice qa qn qc) (.bool false) (.int .i64 tok) (.int .i64 at') (.bool true) (.int .i64 dg)
    have KQz:=KQ0.out.past RB.out (by decide) (fun k hk => stN7_far w153 (w.heap.size+1+1) (.int .i64 seq) (.slice qa qn qc) (.bool false) (.int .i64 tok) (.int .i64 at') (.bool true) (.int .i64 dg) hk)
    have KFz:=KF0.out.past RB.out (by decide) (fun k hk => stN7_far w153 (w.heap.size+1+1) (.int .i64 seq) (.slice qa qn qc) (.bool false) (.int .i64 tok) (.int .i64 at') (.bool true) (.int .i64 dg) hk)
    have HBz:=stN7_below HB.out hle2 (.int .i64 seq) (.slice qa qn qc) (.bool false) (.int .i64 tok) (.int .i64 at') (.bool true) (.int .i64 dg)
    obtain⟨⟨z0,z1,z2,z3,z4,z5,z6⟩,-⟩:=blk7 hz
    unfold stN7 at z0 z1 z2 z3 z4 z5 z6
    refine bodyPost_ret (v:=.tuple #[.agg #[.int .i64 seq,.slice qa qn qc,.bool false,.int .i64 tok,.int .i64 at',.bool true,.int .i64 dg],.slice fa ps.length fc]) (by simp [results,Tryz.results42,go_sem,z0,z1,z2,z3,z4,z5,z6]) rfl ⟨_,_,ps,rfl,KQz.chgs HBz,KFz,rfl,HBz⟩
   | true =>
    obtain⟨he2,hpl⟩:=emp_step HE.out h2.out h3.out (stp_s hsq HP.out)
    rw [List.length_map] at hpl
    have HE2:=hZq he2
    clear he2 HE HP HBr KFr
    have b102:=bl_newZ w101 (.cells #[.int .i64 bx,.int .i64 bt] 28)
    have XB:=newQ w101 (.cells #[.int .i64 bx,.int .i64 bt] 28)
    have hXB:w.heap.size≤w101.heap.size:=HB.out.size
    replace CB:=hZq (upQ CB.out b102)
    replace LB:=hZq (upQ LB.out b102)
    replace RB:=hZq (upQ RB.out b102)
    replace KQ0:=hZq (KQR.later KQ0.out b102)
    replace KF0:=hZq (KG.later KF0.out b102)
    replace HB:=hZq (below2Z HB.out b102)
    clear b102
    replace XB:=hZq XB
    go_upto_region 9 with fail
    generalize w101.alloc (.cells #[.int .i64 bx,.int .i64 bt] 28)=w103 at CB LB RB XB KQ0 KF0 HB ⊢
    have hlb:=(Array.getElem?_eq_some_iff.1 LB.out).1
    have hrb:=(Array.getElem?_eq_some_iff.1 RB.out).1
    have XBo:=blk2 XB.out
    have LBo:=blk7 LB.out
    go_upto_region 10 with fail
    clear XBo LBo hlb hrb
    have hfar0:∀ k,¬ k=w.heap.size+1→((w103.setCell ⟨w.heap.size+1,3,none⟩ (.int .i64 bx)).setCell ⟨w.heap.size+1,4,none⟩ (.int .i64 bt)).heap[k]?=w103.heap[k]?:=fun k hk => by rw [Below.heap_setCell _ _ _ k hk,Below.heap_setCell _ _ _ k hk]
    have CBz:=hZq ((hfar0 (w.heap.size) (blk_ne CB.out LB.out (by decide))).trans CB.out)
    have LBz:Hid (((w103.setCell ⟨w.heap.size+1,3,none⟩ (.int .i64 bx)).setCell ⟨w.heap.size+1,4,none⟩ (.int .i64 bt)).heap[w.heap.size+1]?=some (.cells #[.int .i64 seq,.slice qa qn qc,.bool false,.int .i64 bx,.int .i64 bt,.bool true,.int .i64 dg] 30 (0,0))):=hZq (heap_setCell_same _ (w.heap.size+1) 4 _ _ (.int .i64 bt) (heap_setCell_same _ (w.heap.size+1) 3 _ _ (.int .i64 bx) LB.out))
    have RBz:=hZq ((hfar0 (w.heap.size+1+1) (by omega)).trans RB.out)
    have XBz:=hZq ((hfar0 (w101.heap.size) (blk_ne XB.out LB.out (by decide))).trans XB.out)
    have KQ0z:=hZq (KQ0.out.past LB.out (by decide) hfar0)
    have KF0z:=hZq (KF0.out.past LB.out (by decide) hfar0)
    have HBz:Hid (Below w.heap.size w ((w103.setCell ⟨w.heap.size+1,3,none⟩ (.int .i64 bx)).setCell ⟨w.heap.size+1,4,none⟩ (.int .i64 bt))):=hZq ((HB.out.setCell hle1 _).setCell hle1 _)
    clear CB LB RB XB KQ0 KF0 HB hfar0
    generalize (w103.setCell ⟨w.heap.size+1,3,none⟩ (.int .i64 bx)).setCell ⟨w.heap.size+1,4,none⟩ (.int .i64 bt)=w104 at CBz LBz RBz XBz KQ0z KF0z HBz ⊢
    have CB:=CBz
    have LB:=LBz
    have RB:=RBz
    have XB:=XBz
    have KQ0:=KQ0z
    have KF0:=KF0z
    have HB:=HBz
    clear CBz LBz RBz XBz KQ0z KF0z HBz
    clear XB
    have HBr:=hZq (Below.refl w104.heap.size w104)
    have KFr:=KF0
    have hxfr:=HBr.out.size
    have hlb:=(Array.getElem?_eq_some_iff.1 LB.out).1
    have hrb:=(Array.getElem?_eq_some_iff.1 RB.out).1
    have LBo:=blk7 LB.out
    have b105:=bl_newZ w104 (.cells #[.int .i64 0,.int .i64 seq,.bool false,.string ⟨#[]⟩,.int .i64 0,.int .i64 0,.int .i64 0,.string ⟨#[]⟩,.int .u64 0,.slice none 0 0] 56)
    have XF:=newQ w104 (.cells #[.int .i64 0,.int .i64 seq,.bool false,.string ⟨#[]⟩,.int .i64 0,.int .i64 0,.int .i64 0,.string ⟨#[]⟩,.int .u64 0,.slice none 0 0] 56)
    have hXF:w.heap.size≤w104.heap.size:=HB.out.size
    replace CB:=hZq (upQ CB.out b105)
    replace LB:=hZq (upQ LB.out b105)
    replace RB:=hZq (upQ RB.out b105)
    replace KQ0:=hZq (KQR.later KQ0.out b105)
    replace HBr:=hZq (below2Z HBr.out b105)
    replace KF0:=hZq (KG.later KF0.out b105)
    replace HB:=hZq (below2Z HB.out b105)
    clear b105
    replace XF:=hZq XF
    go_upto_region 11 with fail
    clear LBo
    generalize w104.alloc (.cells #[.int .i64 0,.int .i64 seq,.bool false,.string ⟨#[]⟩,.int .i64 0,.int .i64 0,.int .i64 0,.string ⟨#[]⟩,.int .u64 0,.slice none 0 0] 56)=w106 at CB LB RB XF KQ0 HBr KF0 HB ⊢
    have LBo:=blk7 LB.out
    have XFo:=blk10 XF.out
    go_upto_region 13 with fail
    clear LBo XFo
    have hfar0:∀ k,¬ k=w104.heap.size→(w106.setCell ⟨w104.heap.size,0,none⟩ (.int .i64 3)).heap[k]?=w106.heap[k]?:=fun k hk => by rw [Below.heap_setCell _ _ _ k hk]
    have CBz:=hZq ((hfar0 (w.heap.size) (blk_ne CB.out XF.out (by decide))).trans CB.out)
    have LBz:=hZq ((hfar0 (w.heap.size+1) (blk_ne LB.out XF.out (by decide))).trans LB.out)
    have RBz:=hZq ((hfar0 (w.heap.size+1+1) (blk_ne RB.out XF.out (by decide))).trans RB.out)
    have XFz:=hZq (stS XF.out 0 (.int .i64 3) [.int .i64 3,.int .i64 seq,.bool false,.string ⟨#[]⟩,.int .i64 0,.int .i64 0,.int .i64 0,.string ⟨#[]⟩,.int .u64 0,.slice none 0 0] rfl)
    have KQ0z:=hZq (KQ0.out.past XF.out (by decide) hfar0)
    have HBrz:Hid (Below w104.heap.size w104 (w106.setCell ⟨w104.heap.size,0,none⟩ (.int .i64 3))):=hZq (HBr.out.setCell hxfr _)
    have KF0z:=hZq (KFr.out.later HBrz.out)
    have HBz:Hid (Below w.heap.size w (w106.setCell ⟨w104.heap.size,0,none⟩ (.int .i64 3))):=hZq (HB.out.setCell hXF _)
    clear CB LB RB XF KQ0 HBr KF0 HB hfar0
    generalize w106.setCell ⟨w104.heap.size,0,none⟩ (.int .i64 3)=w107 at CBz LBz RBz XFz KQ0z HBrz KF0z HBz ⊢
    have CB:=CBz
    have LB:=LBz
    have RB:=RBz
    have XF:=XFz
    have KQ0:=KQ0z
    have HBr:=HBrz
    have KF0:=KF0z
    have HB:=HBz
    clear CBz LBz RBz XFz KQ0z HBrz KF0z HBz
    have XFo:=blk10 XF.out
    go_upto_region 14 with fail
    clear XFo
    have hfar0:∀ k,¬ k=w104.heap.size→(w107.setCell ⟨w104.heap.size,9,none⟩ (.slice ta vn tc)).heap[k]?=w107.heap[k]?:=fun k hk => by rw [Below.heap_setCell _ _ _ k hk]
    have CBz:=hZq ((hfar0 (w.heap.size) (blk_ne CB.out XF.out (by decide))).trans CB.out)
    have LBz:=hZq ((hfar0 (w.heap.size+1) (blk_ne LB.out XF.out (by decide))).trans LB.out)
    have RBz:=hZq ((hfar0 (w.heap.size+1+1) (blk_ne RB.out XF.out (by decide))).trans RB.out)
    have XFz:=hZq (stS XF.out 9 (.slice ta vn tc) [.int .i64 3,.int .i64 seq,.bool false,.string ⟨#[]⟩,.int .i64 0,.int .i64 0,.int .i64 0,.string ⟨#[]⟩,.int .u64 0,.slice ta vn tc] rfl)
    have KQ0z:=hZq (KQ0.out.past XF.out (by decide) hfar0)
    have HBrz:Hid (Below w104.heap.size w104 (w107.setCell ⟨w104.heap.size,9,none⟩ (.slice ta vn tc))):=hZq (HBr.out.setCell hxfr _)
    have KF0z:=hZq (KFr.out.later HBrz.out)
    have HBz:Hid (Below w.heap.size w (w107.setCell ⟨w104.heap.size,9,none⟩ (.slice ta vn tc))):=hZq (HB.out.setCell hXF _)
    clear CB LB RB XF KQ0 HBr KF0 HB hfar0
    generalize w107.setCell ⟨w104.heap.size,9,none⟩ (.slice ta vn tc)=w108 at CBz LBz RBz XFz KQ0z HBrz KF0z HBz ⊢
    have CB:=CBz
    have LB:=LBz
    have RB:=RBz
    have XF:=XFz
    have KQ0:=KQ0z
    have HBr:=HBrz
    have KF0:=KF0z
    have HB:=HBz
    clear CBz LBz RBz XFz KQ0z HBrz KF0z HBz
    have LBo:=blk7 LB.out
    go_upto_region 15 with fail
    clear LBo
    have hfar0:∀ k,¬ k=w.heap.size+1→(w108.setCell ⟨w.heap.size+1,5,none⟩ (.bool false)).heap[k]?=w108.heap[k]?:=fun k hk => by rw [Below.heap_setCell _ _ _ k hk]
    have CBz:=hZq ((hfar0 (w.heap.size) (blk_ne CB.out LB.out (by decide))).trans CB.out)
    have LBz:=hZq (stS LB.out 5 (.bool false) [.int .i64 seq,.slice qa qn qc,.bool false,.int .i64 bx,.int .i64 bt,.bool false,.int .i64 dg] rfl)
    have RBz:=hZq ((hfar0 (w.heap.size+1+1) (by omega)).trans RB.out)
    have XFz:=hZq ((hfar0 (w104.heap.size) (blk_ne XF.out LB.out (by decide))).trans XF.out)
    have KQ0z:=hZq (KQ0.out.past LB.out (by decide) hfar0)
    skip
    have KF0z:=hZq (KF0.out.past LB.out (by decide) hfar0)
    have HBz:Hid (Below w.heap.size w (w108.setCell ⟨w.heap.size+1,5,none⟩ (.bool false))):=hZq (HB.out.setCell hle1 _)
    clear CB LB RB XF KQ0 KF0 HB hfar0
    generalize w108.setCell ⟨w.heap.size+1,5,none⟩ (.bool false)=w109 at CBz LBz RBz XFz KQ0z KF0z HBz ⊢
    have CB:=CBz
    have LB:=LBz
    have RB:=RBz
    have XF:=XFz
    have KQ0:=KQ0z
    have KF0:=KF0z
    have HB:=HBz
    clear CBz LBz RBz XFz KQ0z KF0z HBz
    have LBo:=blk7 LB.out
    go_upto_region 26 with fail
    clear LBo
    have hfar0:∀ k,¬ k=w.heap.size+1→(w109.setCell ⟨w.heap.size+1,6,none⟩ (.int .i64 now)).heap[k]?=w109.heap[k]?:=fun k hk => by rw [Below.heap_setCell _ _ _ k hk]
    have CBz:=hZq ((hfar0 (w.heap.size) (blk_ne CB.out LB.out (by decide))).trans CB.out)
    have LBz:=hZq (stS LB.out 6 (.int .i64 now) [.int .i64 seq,.slice qa qn qc,.bool false,.int .i64 bx,.int .i64 bt,.bool false,.int .i64 now] rfl)
    have RBz:=hZq ((hfar0 (w.heap.size+1+1) (by omega)).trans RB.out)
    have XFz:=hZq ((hfar0 (w104.heap.size) (blk_ne XF.out LB.out (by decide))).trans XF.out)
    have KQ0z:=hZq (KQ0.out.past LB.out (by decide) hfar0)
    skip
    have KF0z:=hZq (KF0.out.past LB.out (by decide) hfar0)
    have HBz:Hid (Below w.heap.size w (w109.setCell ⟨w.heap.size+1,6,none⟩ (.int .i64 now))):=hZq (HB.out.setCell hle1 _)
    clear CB LB RB XF KQ0 KF0 HB hfar0
    generalize w109.setCell ⟨w.heap.size+1,6,none⟩ (.int .i64 now)=w110 at CBz LBz RBz XFz KQ0z KF0z HBz ⊢
    have CB:=CBz
    have LB:=LBz
    have RB:=RBz
    have XF:=XFz
    have KQ0:=KQ0z
    have KF0:=KF0z
    have HB:=HBz
    clear CBz LBz RBz XFz KQ0z KF0z HBz
    have XFo:=blk10 XF.out
    have b111:=bl_newZ w110 (.cells #[.int .i64 3,.int .i64 seq,.bool false,.string ⟨#[]⟩,.int .i64 0,.int .i64 0,.int .i64 0,.string ⟨#[]⟩,.int .u64 0,.slice ta vn tc] 56)
    have XA:=newQ w110 (.cells #[.int .i64 3,.int .i64 seq,.bool false,.string ⟨#[]⟩,.int .i64 0,.int .i64 0,.int .i64 0,.string ⟨#[]⟩,.int .u64 0,.slice ta vn tc] 56)
    have hXA:w.heap.size≤w110.heap.size:=HB.out.size
    replace CB:=hZq (upQ CB.out b111)
    replace LB:=hZq (upQ LB.out b111)
    replace RB:=hZq (upQ RB.out b111)
    replace XF:=hZq (upQ XF.out b111)
    replace KQ0:=hZq (KQR.later KQ0.out b111)
    replace KF0:=hZq (KG.later KF0.out b111)
    replace HB:=hZq (below2Z HB.out b111)
    clear b111
    replace XA:=hZq XA
    have SRC:=srcS_new (vals:=frVals) (w:=w110) (r:=(⟨⟨3,seq,false,[],Val.zero,0,view⟩,ta,vn,tc⟩ : FrS)) (cs:=#[.int .i64 3,.int .i64 seq,.bool false,.string ⟨#[]⟩,.int .i64 0,.int .i64 0,.int .i64 0,.string ⟨#[]⟩,.int .u64 0,.slice ta vn tc]) rfl (e:=56) (B:=w110.heap.size) rfl _ rfl
    have KTP:KTR w (w110.alloc (.cells #[.int .i64 3,.int .i64 seq,.bool false,.string ⟨#[]⟩,.int .i64 0,.int .i64 0,.int .i64 0,.string ⟨#[]⟩,.int .u64 0,.slice ta vn tc] 56)) (⟨⟨3,seq,false,[],Val.zero,0,view⟩,ta,vn,tc⟩ : FrS):=HT.out
    go_wp2_with (at_builtin; go_must (refine wpList_append_fr rfl (.tmp 110) (.tmp 112) rfl w.heap.size _ ps rfl (by exact KF0.out.1) ⟨w110.heap.size,0,none⟩ (⟨⟨3,seq,false,[],Val.zero,0,view⟩,ta,vn,tc⟩ : FrS) rfl SRC (by omega) HB.out.size ?_))
    intro fv w112 ho hbl hfar
    have CBz:=hZq (blk_app CB.out KF0.out.1 (by decide) hfar)
    have LBz:=hZq (blk_app LB.out KF0.out.1 (by decide) hfar)
    have RBz:=hZq (blk_app RB.out KF0.out.1 (by decide) hfar)
    have KQ0z:=hZq (KQ0.out.app KF0.out.1 hfar)
    have KF0z:=hZq (KF0.out.more KTP ho hfar)
    have HBz:=hZq (HB.out.trans hbl)
    clear XFo CB LB RB KQ0 KF0 HB XF XA SRC KTP ho hbl hfar HBr KFr hxfr
    have CB:=CBz
    have LB:=LBz
    have RB:=RBz
    have KQ0:=KQ0z
    have KF0:=KF0z
    have HB:=HBz
    clear CBz LBz RBz KQ0z KF0z HBz
    obtain⟨fa2,fc2,rfl⟩:=kg_shape KF0.out
    have LBo:=blk7 LB.out
    go_wp2_with fail
    clear LBo
    have hfar0:∀ k,¬ k=w.heap.size+1→(w112.setCell ⟨w.heap.size+1,0,none⟩ (.int .i64 (seq+1))).heap[k]?=w112.heap[k]?:=fun k hk => by rw [Below.heap_setCell _ _ _ k hk]
    have CBz:=hZq ((hfar0 (w.heap.size) (blk_ne CB.out LB.out (by decide))).trans CB.out)
    have LBz:=hZq (stS LB.out 0 (.int .i64 (seq+1)) [.int .i64 (seq+1),.slice qa qn qc,.bool false,.int .i64 bx,.int .i64 bt,.bool false,.int .i64 now] rfl)
    have RBz:=hZq ((hfar0 (w.heap.size+1+1) (by omega)).trans RB.out)
    have KQ0z:=hZq (KQ0.out.past LB.out (by decide) hfar0)
    have KF0z:=hZq (KF0.out.past LB.out (by decide) hfar0)
    have HBz:Hid (Below w.heap.size w (w112.setCell ⟨w.heap.size+1,0,none⟩ (.int .i64 (seq+1)))):=hZq (HB.out.setCell hle1 _)
    clear CB LB RB KQ0 KF0 HB hfar0
    have CB:=CBz
    have LB:=LBz
    have RB:=RBz
    have KQ0:=KQ0z
    have KF0:=KF0z
    have HB:=HBz
    clear CBz LBz RBz KQ0z KF0z HBz
    go_roundw
    case rel => exact⟨seq+1,bx,bt,now,false,false,[],qa,qn,qc,ps ++ [(⟨⟨3,seq,false,[],Val.zero,0,view⟩,ta,vn,tc⟩ : FrS)],fa2,fc2,n - 1,rfl,hZq (by rw [List.map_append]; exact HE2.out),CB,LB,RB,KQ0,KF0,HB⟩
    case measure => simp [slLen]; omega
  | false =>
   rcases ql with _ | ⟨⟨xc,xo,⟨xa,xb,xd,xs⟩⟩,r⟩
   case cons =>
    have hqpos:((qn:Int) == 0)=false:=by have:=HQN.out; simp only [List.length_cons] at this; rw [beq_eq_false_iff_ne]; omega
    have hqpos2:decide (0 < (qn:Int))=true:=by have:=HQN.out; simp only [List.length_cons] at this; simp; omega
    have hqpos3:decide (0 < qn)=true:=by have:=HQN.out; simp only [List.length_cons] at this; simp; omega
    obtain⟨rn,hrn⟩ : ∃ n,r.length=n:=⟨_,rfl⟩
    have HRN:=hZq hrn
    clear hrn hql
    have CBo:=blk4 CB.out
    have LBo:=blk7 LB.out
    go_wp2_with fail
    clear CBo LBo t1
    refine (rptake_any ca cb cd ce tok at' now HP _).mono ?_
    rintro e w101 ⟨rfl,b101⟩
    replace CB:=hZq (upQ CB.out b101)
    replace LB:=hZq (upQ LB.out b101)
    replace RB:=hZq (upQ RB.out b101)
    replace KQ0:=hZq (KQR.later KQ0.out b101)
    replace KF0:=hZq (KG.later KF0.out b101)
    replace HB:=hZq (below2Z HB.out b101)
    clear b101
    cases is with
    | false =>
     have b152:=bl_newZ w101 (.cells #[.int .i64 bx,.int .i64 bt] 28)
     have XB:=newQ w101 (.cells #[.int .i64 bx,.int .i64 bt] 28)
     have hXB:w.heap.size≤w101.heap.size:=HB.out.size
     replace CB:=hZq (upQ CB.out b152)
     replace LB:=hZq (upQ LB.out b152)
     replace RB:=hZq (upQ RB.out b152)
     replace KQ0:=hZq (KQR.later KQ0.out b152)
     replace KF0:=hZq (KG.later KF0.out b152)
     replace HB:=hZq (below2Z HB.out b152)
     clear b152
     replace XB:=hZq XB
     go_upto_region 28 with fail
     generalize w101.alloc (.cells #[.int .i64 bx,.int .i64 bt] 28)=w153 at CB LB RB XB KQ0 KF0 HB ⊢
     have hend:=emp_end HE.out (stp_tok HP.out)
     rw [HR.out] at hend
     simp only [Prod.mk.injEq] at hend
     obtain⟨rfl,rfl⟩:=hend
     clear HE HR
     have LBo:=blk7 LB.out
     have RBo:=blk7 RB.out
     go_wp2_with fail
     have hz:=stN7_heap RB.out (.int .i64 seq) (.slice qa qn qc) (.bool la) (.int .i64 tok) (.int .i64 at') (.bool false) (.int .i64 dg)
     have KQz:=KQ0.out.past RB.out (by decide) (fun k hk => stN7_far w153 (w.heap.size+1+1) (.int .i64 seq) (.slice qa qn qc) (.bool la) (.int .i64 tok) (.int .i64 at') (.bool false) (.int .i64 dg) hk)
     have KFz:=KF0.out.past RB.out (by decide) (fun k hk => stN7_far w153 (w.heap.size+1+1) (.int .i64 seq) (.slice qa qn qc) (.bool la) (.int .i64 tok) (.int .i64 at') (.bool false) (.int .i64 dg) hk)
     have HBz:=stN7_below HB.out hle2 (.int .i64 seq) (.slice qa qn qc) (.bool la) (.int .i64 tok) (.int .i64 at') (.bool false) (.int .i64 dg)
     obtain⟨⟨z0,z1,z2,z3,z4,z5,z6⟩,-⟩:=blk7 hz
     unfold stN7 at z0 z1 z2 z3 z4 z5 z6
     refine bodyPost_ret (v:=.tuple #[.agg #[.int .i64 seq,.slice qa qn qc,.bool la,.int .i64 tok,.int .i64 at',.bool false,.int .i64 dg],.slice fa ps.length fc]) (by simp [results,Tryz.results42,go_sem,z0,z1,z2,z3,z4,z5,z6]) rfl ⟨_,_,ps,rfl,KQz.chgs HBz,KFz,rfl,HBz⟩
    | true =>
     obtain⟨he2,hpl⟩:=emp_step HE.out h2.out h3.out (stp_d hsq HP.out)
     rw [List.length_map] at hpl
     have HE2:=hZq he2
     clear he2 HE HP HBr KFr
     have b102:=bl_newZ w101 (.cells #[.int .i64 bx,.int .i64 bt] 28)
     have XB:=newQ w101 (.cells #[.int .i64 bx,.int .i64 bt] 28)
     have hXB:w.heap.size≤w101.heap.size:=HB.out.size
     replace CB:=hZq (upQ CB.out b102)
     replace LB:=hZq (upQ LB.out b102)
     replace RB:=hZq (upQ RB.out b102)
     replace KQ0:=hZq (KQR.later KQ0.out b102)
     replace KF0:=hZq (KG.later KF0.out b102)
     replace HB:=hZq (below2Z HB.out b102)
     clear b102
     replace XB:=hZq XB
     go_upto_region 9 with fail
     generalize w101.alloc (.cells #[.int .i64 bx,.int .i64 bt] 28)=w103 at CB LB RB XB KQ0 KF0 HB ⊢
     have hlb:=(Array.getElem?_eq_some_iff.1 LB.out).1
     have hrb:=(Array.getElem?_eq_some_iff.1 RB.out).1
     have XBo:=blk2 XB.out
     have LBo:=blk7 LB.out
     go_upto_region 10 with fail
     clear XBo LBo hlb hrb
     have hfar0:∀ k,¬ k=w.heap.size+1→((w103.setCell ⟨w.heap.size+1,3,none⟩ (.int .i64 bx)).setCell ⟨w.heap.size+1,4,none⟩ (.int .i64 bt)).heap[k]?=w103.heap[k]?:=fun k hk => by rw [Below.heap_setCell _ _ _ k hk,Below.heap_setCell _ _ _ k hk]
     have CBz:=hZq ((hfar0 (w.heap.size) (blk_ne CB.out LB.out (by decide))).trans CB.out)
     have LBz:Hid (((w103.setCell ⟨w.heap.size+1,3,none⟩ (.int .i64 bx)).setCell ⟨w.heap.size+1,4,none⟩ (.int .i64 bt)).heap[w.heap.size+1]?=some (.cells #[.int .i64 seq,.slice qa qn qc,.bool la,.int .i64 bx,.int .i64 bt,.bool false,.int .i64 dg] 30 (0,0))):=hZq (heap_setCell_same _ (w.heap.size+1) 4 _ _ (.int .i64 bt) (heap_setCell_same _ (w.heap.size+1) 3 _ _ (.int .i64 bx) LB.out))
     have RBz:=hZq ((hfar0 (w.heap.size+1+1) (by omega)).trans RB.out)
     have XBz:=hZq ((hfar0 (w101.heap.size) (blk_ne XB.out LB.out (by decide))).trans XB.out)
     have KQ0z:=hZq (KQ0.out.past LB.out (by decide) hfar0)
     have KF0z:=hZq (KF0.out.past LB.out (by decide) hfar0)
     have HBz:Hid (Below w.heap.size w ((w103.setCell ⟨w.heap.size+1,3,none⟩ (.int .i64 bx)).setCell ⟨w.heap.size+1,4,none⟩ (.int .i64 bt))):=hZq ((HB.out.setCell hle1 _).setCell hle1 _)
     clear CB LB RB XB KQ0 KF0 HB hfar0
     generalize (w103.setCell ⟨w.heap.size+1,3,none⟩ (.int .i64 bx)).setCell ⟨w.heap.size+1,4,none⟩ (.int .i64 bt)=w104 at CBz LBz RBz XBz KQ0z KF0z HBz ⊢
     have CB:=CBz
     have LB:=LBz
     have RB:=RBz
     have XB:=XBz
     have KQ0:=KQ0z
     have KF0:=KF0z
     have HB:=HBz
     clear CBz LBz RBz XBz KQ0z KF0z HBz
     clear XB
     have HBr:=hZq (Below.refl w104.heap.size w104)
     have KFr:=KF0
     have hxfr:=HBr.out.size
     have hlb:=(Array.getElem?_eq_some_iff.1 LB.out).1
     have hrb:=(Array.getElem?_eq_some_iff.1 RB.out).1
     have LBo:=blk7 LB.out
     have b105:=bl_newZ w104 (.cells #[.int .i64 0,.int .i64 seq,.bool false,.string ⟨#[]⟩,.int .i64 0,.int .i64 0,.int .i64 0,.string ⟨#[]⟩,.int .u64 0,.slice none 0 0] 56)
     have XF:=newQ w104 (.cells #[.int .i64 0,.int .i64 seq,.bool false,.string ⟨#[]⟩,.int .i64 0,.int .i64 0,.int .i64 0,.string ⟨#[]⟩,.int .u64 0,.slice none 0 0] 56)
     have hXF:w.heap.size≤w104.heap.size:=HB.out.size
     replace CB:=hZq (upQ CB.out b105)
     replace LB:=hZq (upQ LB.out b105)
     replace RB:=hZq (upQ RB.out b105)
     replace KQ0:=hZq (KQR.later KQ0.out b105)
     replace HBr:=hZq (below2Z HBr.out b105)
     replace KF0:=hZq (KG.later KF0.out b105)
     replace HB:=hZq (below2Z HB.out b105)
     clear b105
     replace XF:=hZq XF
     go_upto_region 11 with fail
     clear LBo
     generalize w104.alloc (.cells #[.int .i64 0,.int .i64 seq,.bool false,.string ⟨#[]⟩,.int .i64 0,.int .i64 0,.int .i64 0,.string ⟨#[]⟩,.int .u64 0,.slice none 0 0] 56)=w106 at CB LB RB XF KQ0 HBr KF0 HB ⊢
     have LBo:=blk7 LB.out
     go_wp2_with fail
     clear LBo
     refine (rqupop_tail (KQ0.out.chgs HB.out) la (by simp) (c:=xc) (st:=xs) (on:=xo) (a:=xa) (b:=xb) (d:=xd) rfl).mono ?_
     rintro e w107 ⟨u,rfl,hu,b107⟩
     replace CB:=hZq (upQ CB.out b107)
     replace LB:=hZq (upQ LB.out b107)
     replace RB:=hZq (upQ RB.out b107)
     replace XF:=hZq (upQ XF.out b107)
     replace KQ0:=hZq (KQR.later KQ0.out b107)
     replace HBr:=hZq (below2Z HBr.out b107)
     replace KF0:=hZq (KG.later KF0.out b107)
     replace HB:=hZq (below2Z HB.out b107)
     obtain⟨a2,c2,rfl⟩:=chgs_shape (hu _ (KQ0.out.chgs HB.out)) HRN.out
     have QN:Hid (KQR w w (.slice a2 rn c2) r):=hZq (fun X hX => hu X (KQ0.out X hX))
     clear hu
     clear b107
     have QNx:Hid (KQR w w107 (.slice a2 rn c2) r):=hZq (fun X hX => QN.out X hX)
     clear QN
     have QN:=QNx
     clear QNx
     have b108:=bl_newZ w107 (.cells #[.string ⟨xc.toArray⟩,.bool xo,.int .i64 xa,.int .i64 xb,.int .i64 xd,.string ⟨xs.toArray⟩] 105)
     have XX:=newQ w107 (.cells #[.string ⟨xc.toArray⟩,.bool xo,.int .i64 xa,.int .i64 xb,.int .i64 xd,.string ⟨xs.toArray⟩] 105)
     have hXX:w.heap.size≤w107.heap.size:=HB.out.size
     replace CB:=hZq (upQ CB.out b108)
     replace LB:=hZq (upQ LB.out b108)
     replace RB:=hZq (upQ RB.out b108)
     replace XF:=hZq (upQ XF.out b108)
     replace KQ0:=hZq (KQR.later KQ0.out b108)
     replace HBr:=hZq (below2Z HBr.out b108)
     replace KF0:=hZq (KG.later KF0.out b108)
     replace QN:=hZq (KQR.later QN.out b108)
     replace HB:=hZq (below2Z HB.out b108)
     clear b108
     replace XX:=hZq XX
     have b109:=bl_newZ (w107.alloc (.cells #[.string ⟨xc.toArray⟩,.bool xo,.int .i64 xa,.int .i64 xb,.int .i64 xd,.string ⟨xs.toArray⟩] 105)) (.cells #[.slice a2 rn c2,.bool la] 26)
     have XQ:=newQ (w107.alloc (.cells #[.string ⟨xc.toArray⟩,.bool xo,.int .i64 xa,.int .i64 xb,.int .i64 xd,.string ⟨xs.toArray⟩] 105)) (.cells #[.slice a2 rn c2,.bool la] 26)
     have hXQ:w.heap.size≤(w107.alloc (.cells #[.string ⟨xc.toArray⟩,.bool xo,.int .i64 xa,.int .i64 xb,.int .i64 xd,.string ⟨xs.toArray⟩] 105)).heap.size:=HB.out.size
     rw [World.size_alloc] at XQ hXQ
     replace CB:=hZq (upQ CB.out b109)
     replace LB:=hZq (upQ LB.out b109)
     replace RB:=hZq (upQ RB.out b109)
     replace XF:=hZq (upQ XF.out b109)
     replace XX:=hZq (upQ XX.out b109)
     replace KQ0:=hZq (KQR.later KQ0.out b109)
     replace HBr:=hZq (below2Z HBr.out b109)
     replace KF0:=hZq (KG.later KF0.out b109)
     replace QN:=hZq (KQR.later QN.out b109)
     replace HB:=hZq (below2Z HB.out b109)
     clear b109
     replace XQ:=hZq XQ
     go_upto_region 18 with fail
     generalize (w107.alloc (.cells #[.string ⟨xc.toArray⟩,.bool xo,.int .i64 xa,.int .i64 xb,.int .i64 xd,.string ⟨xs.toArray⟩] 105)).alloc (.cells #[.slice a2 rn c2,.bool la] 26)=w110 at CB LB RB XF XX XQ KQ0 HBr KF0 QN HB ⊢
     have XFo:=blk10 XF.out
     go_upto_region 19 with fail
     clear XFo
     have hfar0:∀ k,¬ k=w104.heap.size→(w110.setCell ⟨w104.heap.size,0,none⟩ (.int .i64 1)).heap[k]?=w110.heap[k]?:=fun k hk => by rw [Below.heap_setCell _ _ _ k hk]
     have CBz:=hZq ((hfar0 (w.heap.size) (blk_ne CB.out XF.out (by decide))).trans CB.out)
     have LBz:=hZq ((hfar0 (w.heap.size+1) (blk_ne LB.out XF.out (by decide))).trans LB.out)
     have RBz:=hZq ((hfar0 (w.heap.size+1+1) (blk_ne RB.out XF.out (by decide))).trans RB.out)
     have XFz:=hZq (stS XF.out 0 (.int .i64 1) [.int .i64 1,.int .i64 seq,.bool false,.string ⟨#[]⟩,.int .i64 0,.int .i64 0,.int .i64 0,.string ⟨#[]⟩,.int .u64 0,.slice none 0 0] rfl)
     have XXz:=hZq ((hfar0 (w107.heap.size) (blk_ne XX.out XF.out (by decide))).trans XX.out)
     have XQz:=hZq ((hfar0 (w107.heap.size+1) (blk_ne XQ.out XF.out (by decide))).trans XQ.out)
     have KQ0z:=hZq (KQ0.out.past XF.out (by decide) hfar0)
     have HBrz:Hid (Below w104.heap.size w104 (w110.setCell ⟨w104.heap.size,0,none⟩ (.int .i64 1))):=hZq (HBr.out.setCell hxfr _)
     have KF0z:=hZq (KFr.out.later HBrz.out)
     have QNz:=hZq (QN.out.past XF.out (by decide) hfar0)
     have HBz:Hid (Below w.heap.size w (w110.setCell ⟨w104.heap.size,0,none⟩ (.int .i64 1))):=hZq (HB.out.setCell hXF _)
     clear CB LB RB XF XX XQ KQ0 HBr KF0 QN HB hfar0
     generalize w110.setCell ⟨w104.heap.size,0,none⟩ (.int .i64 1)=w111 at CBz LBz RBz XFz XXz XQz KQ0z HBrz KF0z QNz HBz ⊢
     have CB:=CBz
     have LB:=LBz
     have RB:=RBz
     have XF:=XFz
     have XX:=XXz
     have XQ:=XQz
     have KQ0:=KQ0z
     have HBr:=HBrz
     have KF0:=KF0z
     have QN:=QNz
     have HB:=HBz
     clear CBz LBz RBz XFz XXz XQz KQ0z HBrz KF0z QNz HBz
     have XXo:=blk6 XX.out
     have XFo:=blk10 XF.out
     go_upto_region 20 with fail
     clear XXo XFo
     have hfar0:∀ k,¬ k=w104.heap.size→(w111.setCell ⟨w104.heap.size,3,none⟩ (.string ⟨xc.toArray⟩)).heap[k]?=w111.heap[k]?:=fun k hk => by rw [Below.heap_setCell _ _ _ k hk]
     have CBz:=hZq ((hfar0 (w.heap.size) (blk_ne CB.out XF.out (by decide))).trans CB.out)
     have LBz:=hZq ((hfar0 (w.heap.size+1) (blk_ne LB.out XF.out (by decide))).trans LB.out)
     have RBz:=hZq ((hfar0 (w.heap.size+1+1) (blk_ne RB.out XF.out (by decide))).trans RB.out)
     have XFz:=hZq (stS XF.out 3 (.string ⟨xc.toArray⟩) [.int .i64 1,.int .i64 seq,.bool false,.string ⟨xc.toArray⟩,.int .i64 0,.int .i64 0,.int .i64 0,.string ⟨#[]⟩,.int .u64 0,.slice none 0 0] rfl)
     have XXz:=hZq ((hfar0 (w107.heap.size) (blk_ne XX.out XF.out (by decide))).trans XX.out)
     have XQz:=hZq ((hfar0 (w107.heap.size+1) (blk_ne XQ.out XF.out (by decide))).trans XQ.out)
     have KQ0z:=hZq (KQ0.out.past XF.out (by decide) hfar0)
     have HBrz:Hid (Below w104.heap.size w104 (w111.setCell ⟨w104.heap.size,3,none⟩ (.string ⟨xc.toArray⟩))):=hZq (HBr.out.setCell hxfr _)
     have KF0z:=hZq (KFr.out.later HBrz.out)
     have QNz:=hZq (QN.out.past XF.out (by decide) hfar0)
     have HBz:Hid (Below w.heap.size w (w111.setCell ⟨w104.heap.size,3,none⟩ (.string ⟨xc.toArray⟩))):=hZq (HB.out.setCell hXF _)
     clear CB LB RB XF XX XQ KQ0 HBr KF0 QN HB hfar0
     generalize w111.setCell ⟨w104.heap.size,3,none⟩ (.string ⟨xc.toArray⟩)=w112 at CBz LBz RBz XFz XXz XQz KQ0z HBrz KF0z QNz HBz ⊢
     have CB:=CBz
     have LB:=LBz
     have RB:=RBz
     have XF:=XFz
     have XX:=XXz
     have XQ:=XQz
     have KQ0:=KQ0z
     have HBr:=HBrz
     have KF0:=KF0z
     have QN:=QNz
     have HB:=HBz
     clear CBz LBz RBz XFz XXz XQz KQ0z HBrz KF0z QNz HBz
     have XXo:=blk6 XX.out
     have XFo:=blk10 XF.out
     go_upto_region 21 with fail
     clear XXo XFo
     have hfar0:∀ k,¬ k=w104.heap.size→(w112.setCell ⟨w104.heap.size,2,none⟩ (.bool xo)).heap[k]?=w112.heap[k]?:=fun k hk => by rw [Below.heap_setCell _ _ _ k hk]
     have CBz:=hZq ((hfar0 (w.heap.size) (blk_ne CB.out XF.out (by decide))).trans CB.out)
     have LBz:=hZq ((hfar0 (w.heap.size+1) (blk_ne LB.out XF.out (by decide))).trans LB.out)
     have RBz:=hZq ((hfar0 (w.heap.size+1+1) (blk_ne RB.out XF.out (by decide))).trans RB.out)
     have XFz:=hZq (stS XF.out 2 (.bool xo) [.int .i64 1,.int .i64 seq,.bool xo,.string ⟨xc.toArray⟩,.int .i64 0,.int .i64 0,.int .i64 0,.string ⟨#[]⟩,.int .u64 0,.slice none 0 0] rfl)
     have XXz:=hZq ((hfar0 (w107.heap.size) (blk_ne XX.out XF.out (by decide))).trans XX.out)
     have XQz:=hZq ((hfar0 (w107.heap.size+1) (blk_ne XQ.out XF.out (by decide))).trans XQ.out)
     have KQ0z:=hZq (KQ0.out.past XF.out (by decide) hfar0)
     have HBrz:Hid (Below w104.heap.size w104 (w112.setCell ⟨w104.heap.size,2,none⟩ (.bool xo))):=hZq (HBr.out.setCell hxfr _)
     have KF0z:=hZq (KFr.out.later HBrz.out)
     have QNz:=hZq (QN.out.past XF.out (by decide) hfar0)
     have HBz:Hid (Below w.heap.size w (w112.setCell ⟨w104.heap.size,2,none⟩ (.bool xo))):=hZq (HB.out.setCell hXF _)
     clear CB LB RB XF XX XQ KQ0 HBr KF0 QN HB hfar0
     generalize w112.setCell ⟨w104.heap.size,2,none⟩ (.bool xo)=w113 at CBz LBz RBz XFz XXz XQz KQ0z HBrz KF0z QNz HBz ⊢
     have CB:=CBz
     have LB:=LBz
     have RB:=RBz
     have XF:=XFz
     have XX:=XXz
     have XQ:=XQz
     have KQ0:=KQ0z
     have HBr:=HBrz
     have KF0:=KF0z
     have QN:=QNz
     have HB:=HBz
     clear CBz LBz RBz XFz XXz XQz KQ0z HBrz KF0z QNz HBz
     have XXo:=blk6 XX.out
     have XFo:=blk10 XF.out
     go_upto_region 22 with fail
     clear XXo XFo
     have hfar0:∀ k,¬ k=w104.heap.size→((((w113.setCell ⟨w104.heap.size,4,none⟩ (.int .i64 xa)).setCell ⟨w104.heap.size,5,none⟩ (.int .i64 xb)).setCell ⟨w104.heap.size,6,none⟩ (.int .i64 xd)).setCell ⟨w104.heap.size,7,none⟩ (.string ⟨xs.toArray⟩)).heap[k]?=w113.heap[k]?:=fun k hk => by rw [Below.heap_setCell _ _ _ k hk,Below.heap_setCell _ _ _ k hk,Below.heap_setCell _ _ _ k hk,Below.heap_setCell _ _ _ k hk]
     have CBz:=hZq ((hfar0 (w.heap.size) (blk_ne CB.out XF.out (by decide))).trans CB.out)
     have LBz:=hZq ((hfar0 (w.heap.size+1) (blk_ne LB.out XF.out (by decide))).trans LB.out)
     have RBz:=hZq ((hfar0 (w.heap.size+1+1) (blk_ne RB.out XF.out (by decide))).trans RB.out)
     have XFz:Hid (((((w113.setCell ⟨w104.heap.size,4,none⟩ (.int .i64 xa)).setCell ⟨w104.heap.size,5,none⟩ (.int .i64 xb)).setCell ⟨w104.heap.size,6,none⟩ (.int .i64 xd)).setCell ⟨w104.heap.size,7,none⟩ (.string ⟨xs.toArray⟩)).heap[w104.heap.size]?=some (.cells #[.int .i64 1,.int .i64 seq,.bool xo,.string ⟨xc.toArray⟩,.int .i64 xa,.int .i64 xb,.int .i64 xd,.string ⟨xs.toArray⟩,.int .u64 0,.slice none 0 0] 56 (0,0))):=hZq (heap_setCell_same _ (w104.heap.size) 7 _ _ (.string ⟨xs.toArray⟩) (heap_setCell_same _ (w104.heap.size) 6 _ _ (.int .i64 xd) (heap_setCell_same _ (w104.heap.size) 5 _ _ (.int .i64 xb) (heap_setCell_same _ (w104.heap.size) 4 _ _ (.int .i64 xa) XF.out))))
     have XXz:=hZq ((hfar0 (w107.heap.size) (blk_ne XX.out XF.out (by decide))).trans XX.out)
     have XQz:=hZq ((hfar0 (w107.heap.size+1) (blk_ne XQ.out XF.out (by decide))).trans XQ.out)
     have KQ0z:=hZq (KQ0.out.past XF.out (by decide) hfar0)
     have HBrz:Hid (Below w104.heap.size w104 ((((w113.setCell ⟨w104.heap.size,4,none⟩ (.int .i64 xa)).setCell ⟨w104.heap.size,5,none⟩ (.int .i64 xb)).setCell ⟨w104.heap.size,6,none⟩ (.int .i64 xd)).setCell ⟨w104.heap.size,7,none⟩ (.string ⟨xs.toArray⟩))):=hZq ((((HBr.out.setCell hxfr _).setCell hxfr _).setCell hxfr _).setCell hxfr _)
     have KF0z:=hZq (KFr.out.later HBrz.out)
     have QNz:=hZq (QN.out.past XF.out (by decide) hfar0)
     have HBz:Hid (Below w.heap.size w ((((w113.setCell ⟨w104.heap.size,4,none⟩ (.int .i64 xa)).setCell ⟨w104.heap.size,5,none⟩ (.int .i64 xb)).setCell ⟨w104.heap.size,6,none⟩ (.int .i64 xd)).setCell ⟨w104.heap.size,7,none⟩ (.string ⟨xs.toArray⟩))):=hZq ((((HB.out.setCell hXF _).setCell hXF _).setCell hXF _).setCell hXF _)
     clear CB LB RB XF XX XQ KQ0 HBr KF0 QN HB hfar0
     generalize (((w113.setCell ⟨w104.heap.size,4,none⟩ (.int .i64 xa)).setCell ⟨w104.heap.size,5,none⟩ (.int .i64 xb)).setCell ⟨w104.heap.size,6,none⟩ (.int .i64 xd)).setCell ⟨w104.heap.size,7,none⟩ (.string ⟨xs.toArray⟩)=w114 at CBz LBz RBz XFz XXz XQz KQ0z HBrz KF0z QNz HBz ⊢
     have CB:=CBz
     have LB:=LBz
     have RB:=RBz
     have XF:=XFz
     have XX:=XXz
     have XQ:=XQz
     have KQ0:=KQ0z
     have HBr:=HBrz
     have KF0:=KF0z
     have QN:=QNz
     have HB:=HBz
     clear CBz LBz RBz XFz XXz XQz KQ0z HBrz KF0z QNz HBz
     clear XX
     have XQo:=blk2 XQ.out
     have LBo:=blk7 LB.out
     go_upto_region 26 with fail
     clear XQo LBo
     have hfar0:∀ k,¬ k=w.heap.size+1→((w114.setCell ⟨w.heap.size+1,1,none⟩ (.slice a2 rn c2)).setCell ⟨w.heap.size+1,2,none⟩ (.bool la)).heap[k]?=w114.heap[k]?:=fun k hk => by rw [Below.heap_setCell _ _ _ k hk,Below.heap_setCell _ _ _ k hk]
     have CBz:=hZq ((hfar0 (w.heap.size) (blk_ne CB.out LB.out (by decide))).trans CB.out)
     have LBz:Hid (((w114.setCell ⟨w.heap.size+1,1,none⟩ (.slice a2 rn c2)).setCell ⟨w.heap.size+1,2,none⟩ (.bool la)).heap[w.heap.size+1]?=some (.cells #[.int .i64 seq,.slice a2 rn c2,.bool la,.int .i64 bx,.int .i64 bt,.bool false,.int .i64 dg] 30 (0,0))):=hZq (heap_setCell_same _ (w.heap.size+1) 2 _ _ (.bool la) (heap_setCell_same _ (w.heap.size+1) 1 _ _ (.slice a2 rn c2) LB.out))
     have RBz:=hZq ((hfar0 (w.heap.size+1+1) (by omega)).trans RB.out)
     have XFz:=hZq ((hfar0 (w104.heap.size) (blk_ne XF.out LB.out (by decide))).trans XF.out)
     have XQz:=hZq ((hfar0 (w107.heap.size+1) (blk_ne XQ.out LB.out (by decide))).trans XQ.out)
     have KQ0z:=hZq (KQ0.out.past LB.out (by decide) hfar0)
     skip
     have KF0z:=hZq (KF0.out.past LB.out (by decide) hfar0)
     have QNz:=hZq (QN.out.past LB.out (by decide) hfar0)
     have HBz:Hid (Below w.heap.size w ((w114.setCell ⟨w.heap.size+1,1,none⟩ (.slice a2 rn c2)).setCell ⟨w.heap.size+1,2,none⟩ (.bool la))):=hZq ((HB.out.setCell hle1 _).setCell hle1 _)
     clear CB LB RB XF XQ KQ0 KF0 QN HB hfar0
     generalize (w114.setCell ⟨w.heap.size+1,1,none⟩ (.slice a2 rn c2)).setCell ⟨w.heap.size+1,2,none⟩ (.bool la)=w115 at CBz LBz RBz XFz XQz KQ0z KF0z QNz HBz ⊢
     have CB:=CBz
     have LB:=LBz
     have RB:=RBz
     have XF:=XFz
     have XQ:=XQz
     have KQ0:=KQ0z
     have KF0:=KF0z
     have QN:=QNz
     have HB:=HBz
     clear CBz LBz RBz XFz XQz KQ0z KF0z QNz HBz
     clear XQ
     have XFo:=blk10 XF.out
     have b116:=bl_newZ w115 (.cells #[.int .i64 1,.int .i64 seq,.bool xo,.string ⟨xc.toArray⟩,.int .i64 xa,.int .i64 xb,.int .i64 xd,.string ⟨xs.toArray⟩,.int .u64 0,.slice none 0 0] 56)
     have XA:=newQ w115 (.cells #[.int .i64 1,.int .i64 seq,.bool xo,.string ⟨xc.toArray⟩,.int .i64 xa,.int .i64 xb,.int .i64 xd,.string ⟨xs.toArray⟩,.int .u64 0,.slice none 0 0] 56)
     have hXA:w.heap.size≤w115.heap.size:=HB.out.size
     replace CB:=hZq (upQ CB.out b116)
     replace LB:=hZq (upQ LB.out b116)
     replace RB:=hZq (upQ RB.out b116)
     replace XF:=hZq (upQ XF.out b116)
     replace KQ0:=hZq (KQR.later KQ0.out b116)
     replace KF0:=hZq (KG.later KF0.out b116)
     replace QN:=hZq (KQR.later QN.out b116)
     replace HB:=hZq (below2Z HB.out b116)
     clear b116
     replace XA:=hZq XA
     have SRC:=srcS_new (vals:=frVals) (w:=w115) (r:=(⟨⟨1,seq,xo,xc,⟨xa,xb,xd,xs⟩,0,[]⟩,none,0,0⟩ : FrS)) (cs:=#[.int .i64 1,.int .i64 seq,.bool xo,.string ⟨xc.toArray⟩,.int .i64 xa,.int .i64 xb,.int .i64 xd,.string ⟨xs.toArray⟩,.int .u64 0,.slice none 0 0]) rfl (e:=56) (B:=w115.heap.size) rfl _ rfl
     have KTP:KTR w (w115.alloc (.cells #[.int .i64 1,.int .i64 seq,.bool xo,.string ⟨xc.toArray⟩,.int .i64 xa,.int .i64 xb,.int .i64 xd,.string ⟨xs.toArray⟩,.int .u64 0,.slice none 0 0] 56)) (⟨⟨1,seq,xo,xc,⟨xa,xb,xd,xs⟩,0,[]⟩,none,0,0⟩ : FrS):=ktr_none _ _ _ rfl
     go_wp2_with (at_builtin; go_must (refine wpList_append_fr rfl (.tmp 110) (.tmp 112) rfl w.heap.size _ ps rfl (by exact KF0.out.1) ⟨w115.heap.size,0,none⟩ (⟨⟨1,seq,xo,xc,⟨xa,xb,xd,xs⟩,0,[]⟩,none,0,0⟩ : FrS) rfl SRC (by omega) HB.out.size ?_))
     intro fv w117 ho hbl hfar
     have CBz:=hZq (blk_app CB.out KF0.out.1 (by decide) hfar)
     have LBz:=hZq (blk_app LB.out KF0.out.1 (by decide) hfar)
     have RBz:=hZq (blk_app RB.out KF0.out.1 (by decide) hfar)
     have KQ0z:=hZq (KQ0.out.app KF0.out.1 hfar)
     have KF0z:=hZq (KF0.out.more KTP ho hfar)
     have HBz:=hZq (HB.out.trans hbl)
     have QNz:=hZq (QN.out.app KF0.out.1 hfar)
     clear XFo CB LB RB KQ0 KF0 HB QN XF XA SRC KTP ho hbl hfar HBr KFr hxfr
     have CB:=CBz
     have LB:=LBz
     have RB:=RBz
     have KQ0:=KQ0z
     have KF0:=KF0z
     have HB:=HBz
     have QN:=QNz
     clear CBz LBz RBz KQ0z KF0z HBz QNz
     obtain⟨fa2,fc2,rfl⟩:=kg_shape KF0.out
     clear KQ0
     have KQ0:=QN
     clear QN
     have LBo:=blk7 LB.out
     go_wp2_with fail
     clear LBo
     have hfar0:∀ k,¬ k=w.heap.size+1→(w117.setCell ⟨w.heap.size+1,0,none⟩ (.int .i64 (seq+1))).heap[k]?=w117.heap[k]?:=fun k hk => by rw [Below.heap_setCell _ _ _ k hk]
     have CBz:=hZq ((hfar0 (w.heap.size) (blk_ne CB.out LB.out (by decide))).trans CB.out)
     have LBz:=hZq (stS LB.out 0 (.int .i64 (seq+1)) [.int .i64 (seq+1),.slice a2 rn c2,.bool la,.int .i64 bx,.int .i64 bt,.bool false,.int .i64 dg] rfl)
     have RBz:=hZq ((hfar0 (w.heap.size+1+1) (by omega)).trans RB.out)
     have KQ0z:=hZq (KQ0.out.past LB.out (by decide) hfar0)
     have KF0z:=hZq (KF0.out.past LB.out (by decide) hfar0)
     have HBz:Hid (Below w.heap.size w (w117.setCell ⟨w.heap.size+1,0,none⟩ (.int .i64 (seq+1)))):=hZq (HB.out.setCell hle1 _)
     clear CB LB RB KQ0 KF0 HB hfar0
     have CB:=CBz
     have LB:=LBz
     have RB:=RBz
     have KQ0:=KQ0z
     have KF0:=KF0z
     have HB:=HBz
     clear CBz LBz RBz KQ0z KF0z HBz
     go_roundw
     case rel => exact⟨seq+1,bx,bt,dg,false,la,r,a2,rn,c2,ps ++ [(⟨⟨1,seq,xo,xc,⟨xa,xb,xd,xs⟩,0,[]⟩,none,0,0⟩ : FrS)],fa2,fc2,n - 1,rfl,hZq (by rw [List.map_append]; exact HE2.out),CB,LB,RB,KQ0,KF0,HB⟩
     case measure => simp [slLen]; omega
   case nil =>
    obtain rfl:qn=0:=HQN.out.symm
    by_cases hdue:now - dg < ce
    case neg =>
     have HDUE:Hid (ce≤now - dg):=hZq (Int.not_lt.1 hdue)
     have t2:decide (ce≤now - dg)=true:=by simp; omega
     clear hdue
     have CBo:=blk4 CB.out
     have LBo:=blk7 LB.out
     go_wp2_with fail
     clear CBo LBo t1
     refine (rptake_any ca cb cd ce tok at' now HP _).mono ?_
     rintro e w101 ⟨rfl,b101⟩
     replace CB:=hZq (upQ CB.out b101)
     replace LB:=hZq (upQ LB.out b101)
     replace RB:=hZq (upQ RB.out b101)
     replace KQ0:=hZq (KQR.later KQ0.out b101)
     replace KF0:=hZq (KG.later KF0.out b101)
     replace HB:=hZq (below2Z HB.out b101)
     clear b101
     cases is with
     | false =>
      have b152:=bl_newZ w101 (.cells #[.int .i64 bx,.int .i64 bt] 28)
      have XB:=newQ w101 (.cells #[.int .i64 bx,.int .i64 bt] 28)
      have hXB:w.heap.size≤w101.heap.size:=HB.out.size
      replace CB:=hZq (upQ CB.out b152)
      replace LB:=hZq (upQ LB.out b152)
      replace RB:=hZq (upQ RB.out b152)
      replace KQ0:=hZq (KQR.later KQ0.out b152)
      replace KF0:=hZq (KG.later KF0.out b152)
      replace HB:=hZq (below2Z HB.out b152)
      clear b152
      replace XB:=hZq XB
      go_upto_region 28 with fail
      generalize w101.alloc (.cells #[.int .i64 bx,.int .i64 bt] 28)=w153 at CB LB RB XB KQ0 KF0 HB ⊢
      have hend:=emp_end HE.out (stp_tok HP.out)
      rw [HR.out] at hend
      simp only [Prod.mk.injEq] at hend
      obtain⟨rfl,rfl⟩:=hend
      clear HE HR
      have LBo:=blk7 LB.out
      have RBo:=blk7 RB.out
      go_wp2_with fail
      have hz:=stN7_heap RB.out (.int .i64 seq) (.slice qa 0 qc) (.bool la) (.int .i64 tok) (.int .i64 at') (.bool false) (.int .i64 dg)
      have KQz:=KQ0.out.past RB.out (by decide) (fun k hk => stN7_far w153 (w.heap.size+1+1) (.int .i64 seq) (.slice qa 0 qc) (.bool la) (.int .i64 tok) (.int .i64 at') (.bool false) (.int .i64 dg) hk)
      have KFz:=KF0.out.past RB.out (by decide) (fun k hk => stN7_far w153 (w.heap.size+1+1) (.int .i64 seq) (.slice qa 0 qc) (.bool la) (.int .i64 tok) (.int .i64 at') (.bool false) (.int .i64 dg) hk)
      have HBz:=stN7_below HB.out hle2 (.int .i64 seq) (.slice qa 0 qc) (.bool la) (.int .i64 tok) (.int .i64 at') (.bool false) (.int .i64 dg)
      obtain⟨⟨z0,z1,z2,z3,z4,z5,z6⟩,-⟩:=blk7 hz
      unfold stN7 at z0 z1 z2 z3 z4 z5 z6
      refine bodyPost_ret (v:=.tuple #[.agg #[.int .i64 seq,.slice qa 0 qc,.bool la,.int .i64 tok,.int .i64 at',.bool false,.int .i64 dg],.slice fa ps.length fc]) (by simp [results,Tryz.results42,go_sem,z0,z1,z2,z3,z4,z5,z6]) rfl ⟨_,_,ps,rfl,KQz.chgs HBz,KFz,rfl,HBz⟩
     | true =>
      obtain⟨he2,hpl⟩:=emp_step HE.out h2.out h3.out (stp_g hsq (Int.not_lt.2 HDUE.out) HP.out)
      rw [List.length_map] at hpl
      have HE2:=hZq he2
      clear he2 HE HP HBr KFr
      have b102:=bl_newZ w101 (.cells #[.int .i64 bx,.int .i64 bt] 28)
      have XB:=newQ w101 (.cells #[.int .i64 bx,.int .i64 bt] 28)
      have hXB:w.heap.size≤w101.heap.size:=HB.out.size
      replace CB:=hZq (upQ CB.out b102)
      replace LB:=hZq (upQ LB.out b102)
      replace RB:=hZq (upQ RB.out b102)
      replace KQ0:=hZq (KQR.later KQ0.out b102)
      replace KF0:=hZq (KG.later KF0.out b102)
      replace HB:=hZq (below2Z HB.out b102)
      clear b102
      replace XB:=hZq XB
      go_upto_region 9 with fail
      generalize w101.alloc (.cells #[.int .i64 bx,.int .i64 bt] 28)=w103 at CB LB RB XB KQ0 KF0 HB ⊢
      have hlb:=(Array.getElem?_eq_some_iff.1 LB.out).1
      have hrb:=(Array.getElem?_eq_some_iff.1 RB.out).1
      have XBo:=blk2 XB.out
      have LBo:=blk7 LB.out
      go_upto_region 10 with fail
      clear XBo LBo hlb hrb
      have hfar0:∀ k,¬ k=w.heap.size+1→((w103.setCell ⟨w.heap.size+1,3,none⟩ (.int .i64 bx)).setCell ⟨w.heap.size+1,4,none⟩ (.int .i64 bt)).heap[k]?=w103.heap[k]?:=fun k hk => by rw [Below.heap_setCell _ _ _ k hk,Below.heap_setCell _ _ _ k hk]
      have CBz:=hZq ((hfar0 (w.heap.size) (blk_ne CB.out LB.out (by decide))).trans CB.out)
      have LBz:Hid (((w103.setCell ⟨w.heap.size+1,3,none⟩ (.int .i64 bx)).setCell ⟨w.heap.size+1,4,none⟩ (.int .i64 bt)).heap[w.heap.size+1]?=some (.cells #[.int .i64 seq,.slice qa 0 qc,.bool la,.int .i64 bx,.int .i64 bt,.bool false,.int .i64 dg] 30 (0,0))):=hZq (heap_setCell_same _ (w.heap.size+1) 4 _ _ (.int .i64 bt) (heap_setCell_same _ (w.heap.size+1) 3 _ _ (.int .i64 bx) LB.out))
      have RBz:=hZq ((hfar0 (w.heap.size+1+1) (by omega)).trans RB.out)
      have XBz:=hZq ((hfar0 (w101.heap.size) (blk_ne XB.out LB.out (by decide))).trans XB.out)
      have KQ0z:=hZq (KQ0.out.past LB.out (by decide) hfar0)
      have KF0z:=hZq (KF0.out.past LB.out (by decide) hfar0)
      have HBz:Hid (Below w.heap.size w ((w103.setCell ⟨w.heap.size+1,3,none⟩ (.int .i64 bx)).setCell ⟨w.heap.size+1,4,none⟩ (.int .i64 bt))):=hZq ((HB.out.setCell hle1 _).setCell hle1 _)
      clear CB LB RB XB KQ0 KF0 HB hfar0
      generalize (w103.setCell ⟨w.heap.size+1,3,none⟩ (.int .i64 bx)).setCell ⟨w.heap.size+1,4,none⟩ (.int .i64 bt)=w104 at CBz LBz RBz XBz KQ0z KF0z HBz ⊢
      have CB:=CBz
      have LB:=LBz
      have RB:=RBz
      have XB:=XBz
      have KQ0:=KQ0z
      have KF0:=KF0z
      have HB:=HBz
      clear CBz LBz RBz XBz KQ0z KF0z HBz
      clear XB
      have HBr:=hZq (Below.refl w104.heap.size w104)
      have KFr:=KF0
      have hxfr:=HBr.out.size
      have hlb:=(Array.getElem?_eq_some_iff.1 LB.out).1
      have hrb:=(Array.getElem?_eq_some_iff.1 RB.out).1
      have LBo:=blk7 LB.out
      have b105:=bl_newZ w104 (.cells #[.int .i64 0,.int .i64 seq,.bool false,.string ⟨#[]⟩,.int .i64 0,.int .i64 0,.int .i64 0,.string ⟨#[]⟩,.int .u64 0,.slice none 0 0] 56)
      have XF:=newQ w104 (.cells #[.int .i64 0,.int .i64 seq,.bool false,.string ⟨#[]⟩,.int .i64 0,.int .i64 0,.int .i64 0,.string ⟨#[]⟩,.int .u64 0,.slice none 0 0] 56)
      have hXF:w.heap.size≤w104.heap.size:=HB.out.size
      replace CB:=hZq (upQ CB.out b105)
      replace LB:=hZq (upQ LB.out b105)
      replace RB:=hZq (upQ RB.out b105)
      replace KQ0:=hZq (KQR.later KQ0.out b105)
      replace HBr:=hZq (below2Z HBr.out b105)
      replace KF0:=hZq (KG.later KF0.out b105)
      replace HB:=hZq (below2Z HB.out b105)
      clear b105
      replace XF:=hZq XF
      go_upto_region 11 with fail
      clear LBo
      generalize w104.alloc (.cells #[.int .i64 0,.int .i64 seq,.bool false,.string ⟨#[]⟩,.int .i64 0,.int .i64 0,.int .i64 0,.string ⟨#[]⟩,.int .u64 0,.slice none 0 0] 56)=w106 at CB LB RB XF KQ0 HBr KF0 HB ⊢
      have LBo:=blk7 LB.out
      have XFo:=blk10 XF.out
      go_upto_region 24 with fail
      clear LBo XFo
      have hfar0:∀ k,¬ k=w104.heap.size→(w106.setCell ⟨w104.heap.size,0,none⟩ (.int .i64 2)).heap[k]?=w106.heap[k]?:=fun k hk => by rw [Below.heap_setCell _ _ _ k hk]
      have CBz:=hZq ((hfar0 (w.heap.size) (blk_ne CB.out XF.out (by decide))).trans CB.out)
      have LBz:=hZq ((hfar0 (w.heap.size+1) (blk_ne LB.out XF.out (by decide))).trans LB.out)
      have RBz:=hZq ((hfar0 (w.heap.size+1+1) (blk_ne RB.out XF.out (by decide))).trans RB.out)
      have XFz:=hZq (stS XF.out 0 (.int .i64 2) [.int .i64 2,.int .i64 seq,.bool false,.string ⟨#[]⟩,.int .i64 0,.int .i64 0,.int .i64 0,.string ⟨#[]⟩,.int .u64 0,.slice none 0 0] rfl)
      have KQ0z:=hZq (KQ0.out.past XF.out (by decide) hfar0)
      have HBrz:Hid (Below w104.heap.size w104 (w106.setCell ⟨w104.heap.size,0,none⟩ (.int .i64 2))):=hZq (HBr.out.setCell hxfr _)
      have KF0z:=hZq (KFr.out.later HBrz.out)
      have HBz:Hid (Below w.heap.size w (w106.setCell ⟨w104.heap.size,0,none⟩ (.int .i64 2))):=hZq (HB.out.setCell hXF _)
      clear CB LB RB XF KQ0 HBr KF0 HB hfar0
      generalize w106.setCell ⟨w104.heap.size,0,none⟩ (.int .i64 2)=w107 at CBz LBz RBz XFz KQ0z HBrz KF0z HBz ⊢
      have CB:=CBz
      have LB:=LBz
      have RB:=RBz
      have XF:=XFz
      have KQ0:=KQ0z
      have HBr:=HBrz
      have KF0:=KF0z
      have HB:=HBz
      clear CBz LBz RBz XFz KQ0z HBrz KF0z HBz
      go_wp2_with fail
      refine (rdisum_any (HT.out _ HB.out) HH.out).mono ?_
      rintro e w108 ⟨rfl,b108⟩
      replace CB:=hZq (upQ CB.out b108)
      replace LB:=hZq (upQ LB.out b108)
      replace RB:=hZq (upQ RB.out b108)
      replace XF:=hZq (upQ XF.out b108)
      replace KQ0:=hZq (KQR.later KQ0.out b108)
      replace HBr:=hZq (below2Z HBr.out b108)
      replace KF0:=hZq (KG.later KF0.out b108)
      replace HB:=hZq (below2Z HB.out b108)
      clear b108
      have XFo:=blk10 XF.out
      go_upto_region 25 with fail
      clear XFo
      have hfar0:∀ k,¬ k=w104.heap.size→(w108.setCell ⟨w104.heap.size,8,none⟩ (.int .u64 (diSum view))).heap[k]?=w108.heap[k]?:=fun k hk => by rw [Below.heap_setCell _ _ _ k hk]
      have CBz:=hZq ((hfar0 (w.heap.size) (blk_ne CB.out XF.out (by decide))).trans CB.out)
      have LBz:=hZq ((hfar0 (w.heap.size+1) (blk_ne LB.out XF.out (by decide))).trans LB.out)
      have RBz:=hZq ((hfar0 (w.heap.size+1+1) (blk_ne RB.out XF.out (by decide))).trans RB.out)
      have XFz:=hZq (stS XF.out 8 (.int .u64 (diSum view)) [.int .i64 2,.int .i64 seq,.bool false,.string ⟨#[]⟩,.int .i64 0,.int .i64 0,.int .i64 0,.string ⟨#[]⟩,.int .u64 (diSum view),.slice none 0 0] rfl)
      have KQ0z:=hZq (KQ0.out.past XF.out (by decide) hfar0)
      have HBrz:Hid (Below w104.heap.size w104 (w108.setCell ⟨w104.heap.size,8,none⟩ (.int .u64 (diSum view)))):=hZq (HBr.out.setCell hxfr _)
      have KF0z:=hZq (KFr.out.later HBrz.out)
      have HBz:Hid (Below w.heap.size w (w108.setCell ⟨w104.heap.size,8,none⟩ (.int .u64 (diSum view)))):=hZq (HB.out.setCell hXF _)
      clear CB LB RB XF KQ0 HBr KF0 HB hfar0
      generalize w108.setCell ⟨w104.heap.size,8,none⟩ (.int .u64 (diSum view))=w109 at CBz LBz RBz XFz KQ0z HBrz KF0z HBz ⊢
      have CB:=CBz
      have LB:=LBz
      have RB:=RBz
      have XF:=XFz
      have KQ0:=KQ0z
      have HBr:=HBrz
      have KF0:=KF0z
      have HB:=HBz
      clear CBz LBz RBz XFz KQ0z HBrz KF0z HBz
      have LBo:=blk7 LB.out
      go_upto_region 26 with fail
      clear LBo
      have hfar0:∀ k,¬ k=w.heap.size+1→(w109.setCell ⟨w.heap.size+1,6,none⟩ (.int .i64 now)).heap[k]?=w109.heap[k]?:=fun k hk => by rw [Below.heap_setCell _ _ _ k hk]
      have CBz:=hZq ((hfar0 (w.heap.size) (blk_ne CB.out LB.out (by decide))).trans CB.out)
      have LBz:=hZq (stS LB.out 6 (.int .i64 now) [.int .i64 seq,.slice qa 0 qc,.bool la,.int .i64 bx,.int .i64 bt,.bool false,.int .i64 now] rfl)
      have RBz:=hZq ((hfar0 (w.heap.size+1+1) (by omega)).trans RB.out)
      have XFz:=hZq ((hfar0 (w104.heap.size) (blk_ne XF.out LB.out (by decide))).trans XF.out)
      have KQ0z:=hZq (KQ0.out.past LB.out (by decide) hfar0)
      skip
      have KF0z:=hZq (KF0.out.past LB.out (by decide) hfar0)
      have HBz:Hid (Below w.heap.size w (w109.setCell ⟨w.heap.size+1,6,none⟩ (.int .i64 now))):=hZq (HB.out.setCell hle1 _)
      clear CB LB RB XF KQ0 KF0 HB hfar0
      generalize w109.setCell ⟨w.heap.size+1,6,none⟩ (.int .i64 now)=w110 at CBz LBz RBz XFz KQ0z KF0z HBz ⊢
      have CB:=CBz
      have LB:=LBz
      have RB:=RBz
      have XF:=XFz
      have KQ0:=KQ0z
      have KF0:=KF0z
      have HB:=HBz
      clear CBz LBz RBz XFz KQ0z KF0z HBz
      have XFo:=blk10 XF.out
      have b111:=bl_newZ w110 (.cells #[.int .i64 2,.int .i64 seq,.bool false,.string ⟨#[]⟩,.int .i64 0,.int .i64 0,.int .i64 0,.string ⟨#[]⟩,.int .u64 (diSum view),.slice none 0 0] 56)
      have XA:=newQ w110 (.cells #[.int .i64 2,.int .i64 seq,.bool false,.string ⟨#[]⟩,.int .i64 0,.int .i64 0,.int .i64 0,.string ⟨#[]⟩,.int .u64 (diSum view),.slice none 0 0] 56)
      have hXA:w.heap.size≤w110.heap.size:=HB.out.size
      replace CB:=hZq (upQ CB.out b111)
      replace LB:=hZq (upQ LB.out b111)
      replace RB:=hZq (upQ RB.out b111)
      replace XF:=hZq (upQ XF.out b111)
      replace KQ0:=hZq (KQR.later KQ0.out b111)
      replace KF0:=hZq (KG.later KF0.out b111)
      replace HB:=hZq (below2Z HB.out b111)
      clear b111
      replace XA:=hZq XA
      have SRC:=srcS_new (vals:=frVals) (w:=w110) (r:=(⟨⟨2,seq,false,[],Val.zero,diSum view,[]⟩,none,0,0⟩ : FrS)) (cs:=#[.int .i64 2,.int .i64 seq,.bool false,.string ⟨#[]⟩,.int .i64 0,.int .i64 0,.int .i64 0,.string ⟨#[]⟩,.int .u64 (diSum view),.slice none 0 0]) rfl (e:=56) (B:=w110.heap.size) rfl _ rfl
      have KTP:KTR w (w110.alloc (.cells #[.int .i64 2,.int .i64 seq,.bool false,.string ⟨#[]⟩,.int .i64 0,.int .i64 0,.int .i64 0,.string ⟨#[]⟩,.int .u64 (diSum view),.slice none 0 0] 56)) (⟨⟨2,seq,false,[],Val.zero,diSum view,[]⟩,none,0,0⟩ : FrS):=ktr_none _ _ _ rfl
      go_wp2_with (at_builtin; go_must (refine wpList_append_fr rfl (.tmp 110) (.tmp 112) rfl w.heap.size _ ps rfl (by exact KF0.out.1) ⟨w110.heap.size,0,none⟩ (⟨⟨2,seq,false,[],Val.zero,diSum view,[]⟩,none,0,0⟩ : FrS) rfl SRC (by omega) HB.out.size ?_))
      intro fv w112 ho hbl hfar
      have CBz:=hZq (blk_app CB.out KF0.out.1 (by decide) hfar)
      have LBz:=hZq (blk_app LB.out KF0.out.1 (by decide) hfar)
      have RBz:=hZq (blk_app RB.out KF0.out.1 (by decide) hfar)
      have KQ0z:=hZq (KQ0.out.app KF0.out.1 hfar)
      have KF0z:=hZq (KF0.out.more KTP ho hfar)
      have HBz:=hZq (HB.out.trans hbl)
      clear XFo CB LB RB KQ0 KF0 HB XF XA SRC KTP ho hbl hfar HBr KFr hxfr
      have CB:=CBz
      have LB:=LBz
      have RB:=RBz
      have KQ0:=KQ0z
      have KF0:=KF0z
      have HB:=HBz
      clear CBz LBz RBz KQ0z KF0z HBz
      obtain⟨fa2,fc2,rfl⟩:=kg_shape KF0.out
      have LBo:=blk7 LB.out
      go_wp2_with fail
      clear LBo
      have hfar0:∀ k,¬ k=w.heap.size+1→(w112.setCell ⟨w.heap.size+1,0,none⟩ (.int .i64 (seq+1))).heap[k]?=w112.heap[k]?:=fun k hk => by rw [Below.heap_setCell _ _ _ k hk]
      have CBz:=hZq ((hfar0 (w.heap.size) (blk_ne CB.out LB.out (by decide))).trans CB.out)
      have LBz:=hZq (stS LB.out 0 (.int .i64 (seq+1)) [.int .i64 (seq+1),.slice qa 0 qc,.bool la,.int .i64 bx,.int .i64 bt,.bool false,.int .i64 now] rfl)
      have RBz:=hZq ((hfar0 (w.heap.size+1+1) (by omega)).trans RB.out)
      have KQ0z:=hZq (KQ0.out.past LB.out (by decide) hfar0)
      have KF0z:=hZq (KF0.out.past LB.out (by decide) hfar0)
      have HBz:Hid (Below w.heap.size w (w112.setCell ⟨w.heap.size+1,0,none⟩ (.int .i64 (seq+1)))):=hZq (HB.out.setCell hle1 _)
      clear CB LB RB KQ0 KF0 HB hfar0
      have CB:=CBz
      have LB:=LBz
      have RB:=RBz
      have KQ0:=KQ0z
      have KF0:=KF0z
      have HB:=HBz
      clear CBz LBz RBz KQ0z KF0z HBz
      go_roundw
      case rel => exact⟨seq+1,bx,bt,now,false,la,[],qa,0,qc,ps ++ [(⟨⟨2,seq,false,[],Val.zero,diSum view,[]⟩,none,0,0⟩ : FrS)],fa2,fc2,n - 1,rfl,hZq (by rw [List.map_append]; exact HE2.out),CB,LB,RB,KQ0,KF0,HB⟩
      case measure => simp [slLen]; omega
    case pos =>
     have HDUE:=hZq hdue
     have t2:decide (ce≤now - dg)=false:=by simp; omega
     clear hdue
     have CBo:=blk4 CB.out
     have LBo:=blk7 LB.out
     have RBo:=blk7 RB.out
     go_upto_region 28 with fail
     clear CBo LBo RBo t1
     have hend:=emp_end HE.out (stp_n HDUE.out)
     rw [HR.out] at hend
     simp only [Prod.mk.injEq] at hend
     obtain⟨rfl,rfl⟩:=hend
     clear HE HR
     have LBo:=blk7 LB.out
     have RBo:=blk7 RB.out
     go_wp2_with fail
     have hz:=stN7_heap RB.out (.int .i64 seq) (.slice qa 0 qc) (.bool la) (.int .i64 tok) (.int .i64 at') (.bool false) (.int .i64 dg)
     have KQz:=KQ0.out.past RB.out (by decide) (fun k hk => stN7_far wr (w.heap.size+1+1) (.int .i64 seq) (.slice qa 0 qc) (.bool la) (.int .i64 tok) (.int .i64 at') (.bool false) (.int .i64 dg) hk)
     have KFz:=KF0.out.past RB.out (by decide) (fun k hk => stN7_far wr (w.heap.size+1+1) (.int .i64 seq) (.slice qa 0 qc) (.bool la) (.int .i64 tok) (.int .i64 at') (.bool false) (.int .i64 dg) hk)
     have HBz:=stN7_below HB.out hle2 (.int .i64 seq) (.slice qa 0 qc) (.bool la) (.int .i64 tok) (.int .i64 at') (.bool false) (.int .i64 dg)
     obtain⟨⟨z0,z1,z2,z3,z4,z5,z6⟩,-⟩:=blk7 hz
     unfold stN7 at z0 z1 z2 z3 z4 z5 z6
     refine bodyPost_ret (v:=.tuple #[.agg #[.int .i64 seq,.slice qa 0 qc,.bool la,.int .i64 tok,.int .i64 at',.bool false,.int .i64 dg],.slice fa ps.length fc]) (by simp [results,Tryz.results42,go_sem,z0,z1,z2,z3,z4,z5,z6]) rfl ⟨_,_,ps,rfl,KQz.chgs HBz,KFz,rfl,HBz⟩

theorem rlemit_any {w:World} {v vt:Value} {ql:List Chg} {view:List Row} (hv:Chgs w v ql) (ht:Tab w vt view) (hs:ShortC ql) (hl:ql.length≤100) (hsh:Short view) (ca cb cd ce seq tok at' dg now:Int) (la sn:Bool) {M:Lnk} {fs:List Frm} (hr:Hid (lnEmit ⟨ca,cb,cd,ce⟩ ⟨seq,⟨ql,la⟩,⟨tok,at'⟩,sn,dg⟩ view now=(M,fs))) :
  Calls Tryz.prog 42 #[.agg #[.int .i64 ca,.int .i64 cb,.int .i64 cd,.int .i64 ce],.agg #[.int .i64 seq,v,.bool la,.int .i64 tok,.int .i64 at',.bool sn,.int .i64 dg],vt,.int .i64 now] w (EmittedR w M fs):=by
 have hr':=hr.out
 unfold lnEmit at hr'
 cases h1:lnMay ⟨ca,cb,cd,ce⟩ ⟨seq,⟨ql,la⟩,⟨tok,at'⟩,sn,dg⟩ with
 | false =>
  rw [h1] at hr'
  simp only [Bool.false_and,Bool.false_eq_true,if_false,Prod.mk.injEq] at hr'
  obtain⟨rfl,rfl⟩:=hr'
  exact rlemit_r1 hv ht hs hl hsh ca cb cd ce seq tok at' dg now la sn (hZq h1)
 | true =>
  cases h2:diMay view with
  | false =>
   rw [h1,h2] at hr'
   simp only [Bool.false_and,Bool.and_false,Bool.false_eq_true,if_false,Prod.mk.injEq] at hr'
   obtain⟨rfl,rfl⟩:=hr'
   exact rlemit_r2 hv ht hs hl hsh ca cb cd ce seq tok at' dg now la sn (hZq h1) (hZq h2)
  | true =>
   cases h3:pcTime now with
   | false =>
    rw [h1,h2,h3] at hr'
    simp only [Bool.and_false,Bool.false_eq_true,if_false,Prod.mk.injEq] at hr'
    obtain⟨rfl,rfl⟩:=hr'
    exact rlemit_r3 hv ht hs hl hsh ca cb cd ce seq tok at' dg now la sn (hZq h1) (hZq h2) (hZq h3)
   | true =>
    rw [h1,h2,h3] at hr'
    simp only [Bool.and_true,if_true] at hr'
    exact rlemit_in hv ht hs hl hsh ca cb cd ce seq tok at' dg now la sn (hZq h1) (hZq h2) (hZq h3) (hZq hr')
end Go.Proofs.YtmpigdokghngiaaGreat
