/-
 TEXTS OF THE PROOF, one behind the other: LnkEmit.
-/
import Derived.Test.YtfocooajnignbaaW05
import Derived.Test.YtfocooajnignbaaW09
import Derived.Test.YtfocooajnignbaaW10
import Derived.Test.YtfocooajnignbaaW08
import Derived.Test.YtfocooajnignbaaW03
import Derived.Deep.Cut

set_option maxHeartbeats 12800000
set_option maxRecDepth 100000

namespace Go.Proofs.Ytfocooajnignbaa
open Go.RowKit

set_option linter.unusedSimpArgs false
set_option linter.unusedVariables false

def Emitted (w:World) (M:Lnk) (fs:List Frm) (e:Ending) (w':World):Prop :=
 ∃ u fv ps,e=.returned (.tuple #[.agg #[.int .i64 M.seq,u,.bool M.q.la,.int .i64 M.b.tok,.int .i64 M.b.at',.bool M.sn,.int .i64 M.dg],fv])∧Chgs w' u M.q.l∧KF w w' fv ps∧ps.map FrS.f=fs∧Below w.heap.size w w'

theorem chgs_nilL (X:World):Chgs X (.slice none 0 0) []:=⟨none,0,rfl,by simp,by simp,fun _ => rfl,.inl rfl⟩

theorem quOne_shortL {x:Chg} (h:quOne x=true):x.c.length≤4294967296∧x.v.st.length≤4294967296:=by
 unfold quOne at h
 rw [Bool.and_eq_true] at h
 have h1:=(idIs_parts h.1).2.1
 have h2:=h.2
 split at h2
 ·unfold vaMay stOk at h2
  simp only [Bool.and_eq_true,decide_eq_true_eq] at h2
  have h3:=h2.2.1
  omega
 ·unfold vSame Val.zero at h2
  simp only [Bool.and_eq_true,beq_iff_eq] at h2
  have h3:x.v.st=[]:=h2.2.2.2
  rw [h3]
  simp
  omega

theorem lnMay_short {c:Cfg} {l:Lnk} (h:lnMay c l=true):ShortC l.q.l∧l.q.l.length≤16∧0≤l.seq∧l.seq≤1099511627776∧0≤l.dg∧l.dg≤1099511627776:=by
 obtain⟨h1,h2,h3,h4,h5,h6,h7⟩:=lnMay_iff.1 h
 obtain⟨m1,m2,m3,m4⟩:=quMay_iff.1 h4
 obtain⟨d1,d2⟩:=pcTime_iff.1 h6
 have hr:=(pcMay_iff.1 (pcOne_iff.1 h1).1).2.1
 exact⟨fun x hx => quOne_shortL (m3 x hx),by omega,h2,h3,d1,d2⟩

theorem lemit_r1 {w:World} {v vt:Value} {ql:List Chg} {view:List Row} (hv:Chgs w v ql) (ht:Tab w vt view) (hs:ShortC ql) (hl:ql.length≤100) (hsh:Short view) (ca cb cd ce seq tok at' dg now:Int) (la sn:Bool) (h1:Hid (lnMay ⟨ca,cb,cd,ce⟩ ⟨seq,⟨ql,la⟩,⟨tok,at'⟩,sn,dg⟩=false)) :
  Calls Try.prog 9 #[.agg #[.int .i64 ca,.int .i64 cb,.int .i64 cd,.int .i64 ce],.agg #[.int .i64 seq,v,.bool la,.int .i64 tok,.int .i64 at',.bool sn,.int .i64 dg],vt,.int .i64 now] w (Emitted w ⟨seq,⟨ql,la⟩,⟨tok,at'⟩,sn,dg⟩ []):=by
 obtain⟨qn,hqn⟩ : ∃ n,ql.length=n:=⟨_,rfl⟩
 obtain⟨ao,cap,rfl⟩:=chgs_shape hv hqn
 obtain⟨CB,LB,RB,HB⟩:=ent3 w (.cells #[.int .i64 ca,.int .i64 cb,.int .i64 cd,.int .i64 ce] 23) (.cells #[.int .i64 seq,.slice ao qn cap,.bool la,.int .i64 tok,.int .i64 at',.bool sn,.int .i64 dg] 33) (.cells #[.int .i64 0,.slice none 0 0,.bool false,.int .i64 0,.int .i64 0,.bool false,.int .i64 0] 33)
 have V:=hZq (hv.later HB.out)
 have T:=hZq (ht.later HB.out)
 have hle1:w.heap.size≤w.heap.size+1:=Nat.le_succ _
 have hle2:w.heap.size≤w.heap.size+1+1:=by omega
 have KQ0:Hid (KQ w (((w.alloc (.cells #[.int .i64 ca,.int .i64 cb,.int .i64 cd,.int .i64 ce] 23)).alloc (.cells #[.int .i64 seq,.slice ao qn cap,.bool la,.int .i64 tok,.int .i64 at',.bool sn,.int .i64 dg] 33)).alloc (.cells #[.int .i64 0,.slice none 0 0,.bool false,.int .i64 0,.int .i64 0,.bool false,.int .i64 0] 33)) (.slice ao qn cap) ql):=hZq (.inl (fun X hX => hv.later hX))
 have HS:=hZq hs
 have HH:=hZq hsh
 clear hs hsh
 have CBo:=blk4 CB.out
 have LBo:=blk7 LB.out
 go_enter Try.func9,Try.ntmps9
 go_wp2_with fail
 clear CBo LBo
 refine (lmay_any V.out HS.out hl la sn seq tok at' dg ca cb cd ce h1).mono ?_
 rintro e w4 ⟨rfl,b4⟩
 replace CB:=hZq (upQ CB.out b4)
 replace LB:=hZq (upQ LB.out b4)
 replace RB:=hZq (upQ RB.out b4)
 replace V:=hZq (V.out.later b4)
 replace T:=hZq (T.out.later b4)
 replace KQ0:=hZq (KQ.later KQ0.out b4)
 replace HB:=hZq (below2Z HB.out b4)
 clear b4
 have LBo:=blk7 LB.out
 have RBo:=blk7 RB.out
 go_wp2_with fail
 have hz:=stN7_heap RB.out (.int .i64 seq) (.slice ao qn cap) (.bool la) (.int .i64 tok) (.int .i64 at') (.bool sn) (.int .i64 dg)
 have KQz:=KQ0.out.past RB.out (by decide) (fun k hk => stN7_far w4 (w.heap.size+1+1) (.int .i64 seq) (.slice ao qn cap) (.bool la) (.int .i64 tok) (.int .i64 at') (.bool sn) (.int .i64 dg) hk)
 have KFz:=kf_nil w (stN7 w4 (w.heap.size+1+1) (.int .i64 seq) (.slice ao qn cap) (.bool la) (.int .i64 tok) (.int .i64 at') (.bool sn) (.int .i64 dg))
 have HBz:=stN7_below HB.out hle2 (.int .i64 seq) (.slice ao qn cap) (.bool la) (.int .i64 tok) (.int .i64 at') (.bool sn) (.int .i64 dg)
 obtain⟨⟨z0,z1,z2,z3,z4,z5,z6⟩,-⟩:=blk7 hz
 unfold stN7 at z0 z1 z2 z3 z4 z5 z6
 refine bodyPost_ret (v:=.tuple #[.agg #[.int .i64 seq,.slice ao qn cap,.bool la,.int .i64 tok,.int .i64 at',.bool sn,.int .i64 dg],.slice none 0 0]) (by simp [results,Try.results9,go_sem,z0,z1,z2,z3,z4,z5,z6]) rfl ⟨_,_,[],rfl,KQz.chgs HBz,KFz,rfl,HBz⟩

theorem lemit_r2 {w:World} {v vt:Value} {ql:List Chg} {view:List Row} (hv:Chgs w v ql) (ht:Tab w vt view) (hs:ShortC ql) (hl:ql.length≤100) (hsh:Short view) (ca cb cd ce seq tok at' dg now:Int) (la sn:Bool) (h1:Hid (lnMay ⟨ca,cb,cd,ce⟩ ⟨seq,⟨ql,la⟩,⟨tok,at'⟩,sn,dg⟩=true)) (h2:Hid (diMay view=false)) :
  Calls Try.prog 9 #[.agg #[.int .i64 ca,.int .i64 cb,.int .i64 cd,.int .i64 ce],.agg #[.int .i64 seq,v,.bool la,.int .i64 tok,.int .i64 at',.bool sn,.int .i64 dg],vt,.int .i64 now] w (Emitted w ⟨seq,⟨ql,la⟩,⟨tok,at'⟩,sn,dg⟩ []):=by
 obtain⟨qn,hqn⟩ : ∃ n,ql.length=n:=⟨_,rfl⟩
 obtain⟨ao,cap,rfl⟩:=chgs_shape hv hqn
 obtain⟨CB,LB,RB,HB⟩:=ent3 w (.cells #[.int .i64 ca,.int .i64 cb,.int .i64 cd,.int .i64 ce] 23) (.cells #[.int .i64 seq,.slice ao qn cap,.bool la,.int .i64 tok,.int .i64 at',.bool sn,.int .i64 dg] 33) (.cells #[.int .i64 0,.slice none 0 0,.bool false,.int .i64 0,.int .i64 0,.bool false,.int .i64 0] 33)
 have V:=hZq (hv.later HB.out)
 have T:=hZq (ht.later HB.out)
 have hle1:w.heap.size≤w.heap.size+1:=Nat.le_succ _
 have hle2:w.heap.size≤w.heap.size+1+1:=by omega
 have KQ0:Hid (KQ w (((w.alloc (.cells #[.int .i64 ca,.int .i64 cb,.int .i64 cd,.int .i64 ce] 23)).alloc (.cells #[.int .i64 seq,.slice ao qn cap,.bool la,.int .i64 tok,.int .i64 at',.bool sn,.int .i64 dg] 33)).alloc (.cells #[.int .i64 0,.slice none 0 0,.bool false,.int .i64 0,.int .i64 0,.bool false,.int .i64 0] 33)) (.slice ao qn cap) ql):=hZq (.inl (fun X hX => hv.later hX))
 have HS:=hZq hs
 have HH:=hZq hsh
 clear hs hsh
 have CBo:=blk4 CB.out
 have LBo:=blk7 LB.out
 go_enter Try.func9,Try.ntmps9
 go_wp2_with fail
 clear CBo LBo
 refine (lmay_any V.out HS.out hl la sn seq tok at' dg ca cb cd ce h1).mono ?_
 rintro e w4 ⟨rfl,b4⟩
 replace CB:=hZq (upQ CB.out b4)
 replace LB:=hZq (upQ LB.out b4)
 replace RB:=hZq (upQ RB.out b4)
 replace V:=hZq (V.out.later b4)
 replace T:=hZq (T.out.later b4)
 replace KQ0:=hZq (KQ.later KQ0.out b4)
 replace HB:=hZq (below2Z HB.out b4)
 clear b4
 have CBo:=blk4 CB.out
 have LBo:=blk7 LB.out
 go_wp2_with fail
 clear CBo LBo
 refine (dimay_eq T.out HH.out h2).mono ?_
 rintro e w5 ⟨rfl,b5⟩
 replace CB:=hZq (upQ CB.out b5)
 replace LB:=hZq (upQ LB.out b5)
 replace RB:=hZq (upQ RB.out b5)
 replace V:=hZq (V.out.later b5)
 replace T:=hZq (T.out.later b5)
 replace KQ0:=hZq (KQ.later KQ0.out b5)
 replace HB:=hZq (below2Z HB.out b5)
 clear b5
 have LBo:=blk7 LB.out
 have RBo:=blk7 RB.out
 go_wp2_with fail
 have hz:=stN7_heap RB.out (.int .i64 seq) (.slice ao qn cap) (.bool la) (.int .i64 tok) (.int .i64 at') (.bool sn) (.int .i64 dg)
 have KQz:=KQ0.out.past RB.out (by decide) (fun k hk => stN7_far w5 (w.heap.size+1+1) (.int .i64 seq) (.slice ao qn cap) (.bool la) (.int .i64 tok) (.int .i64 at') (.bool sn) (.int .i64 dg) hk)
 have KFz:=kf_nil w (stN7 w5 (w.heap.size+1+1) (.int .i64 seq) (.slice ao qn cap) (.bool la) (.int .i64 tok) (.int .i64 at') (.bool sn) (.int .i64 dg))
 have HBz:=stN7_below HB.out hle2 (.int .i64 seq) (.slice ao qn cap) (.bool la) (.int .i64 tok) (.int .i64 at') (.bool sn) (.int .i64 dg)
 obtain⟨⟨z0,z1,z2,z3,z4,z5,z6⟩,-⟩:=blk7 hz
 unfold stN7 at z0 z1 z2 z3 z4 z5 z6
 refine bodyPost_ret (v:=.tuple #[.agg #[.int .i64 seq,.slice ao qn cap,.bool la,.int .i64 tok,.int .i64 at',.bool sn,.int .i64 dg],.slice none 0 0]) (by simp [results,Try.results9,go_sem,z0,z1,z2,z3,z4,z5,z6]) rfl ⟨_,_,[],rfl,KQz.chgs HBz,KFz,rfl,HBz⟩

theorem lemit_r3 {w:World} {v vt:Value} {ql:List Chg} {view:List Row} (hv:Chgs w v ql) (ht:Tab w vt view) (hs:ShortC ql) (hl:ql.length≤100) (hsh:Short view) (ca cb cd ce seq tok at' dg now:Int) (la sn:Bool) (h1:Hid (lnMay ⟨ca,cb,cd,ce⟩ ⟨seq,⟨ql,la⟩,⟨tok,at'⟩,sn,dg⟩=true)) (h2:Hid (diMay view=true)) (h3:Hid (pcTime now=false)) :
  Calls Try.prog 9 #[.agg #[.int .i64 ca,.int .i64 cb,.int .i64 cd,.int .i64 ce],.agg #[.int .i64 seq,v,.bool la,.int .i64 tok,.int .i64 at',.bool sn,.int .i64 dg],vt,.int .i64 now] w (Emitted w ⟨seq,⟨ql,la⟩,⟨tok,at'⟩,sn,dg⟩ []):=by
 obtain⟨qn,hqn⟩ : ∃ n,ql.length=n:=⟨_,rfl⟩
 obtain⟨ao,cap,rfl⟩:=chgs_shape hv hqn
 obtain⟨CB,LB,RB,HB⟩:=ent3 w (.cells #[.int .i64 ca,.int .i64 cb,.int .i64 cd,.int .i64 ce] 23) (.cells #[.int .i64 seq,.slice ao qn cap,.bool la,.int .i64 tok,.int .i64 at',.bool sn,.int .i64 dg] 33) (.cells #[.int .i64 0,.slice none 0 0,.bool false,.int .i64 0,.int .i64 0,.bool false,.int .i64 0] 33)
 have V:=hZq (hv.later HB.out)
 have T:=hZq (ht.later HB.out)
 have hle1:w.heap.size≤w.heap.size+1:=Nat.le_succ _
 have hle2:w.heap.size≤w.heap.size+1+1:=by omega
 have KQ0:Hid (KQ w (((w.alloc (.cells #[.int .i64 ca,.int .i64 cb,.int .i64 cd,.int .i64 ce] 23)).alloc (.cells #[.int .i64 seq,.slice ao qn cap,.bool la,.int .i64 tok,.int .i64 at',.bool sn,.int .i64 dg] 33)).alloc (.cells #[.int .i64 0,.slice none 0 0,.bool false,.int .i64 0,.int .i64 0,.bool false,.int .i64 0] 33)) (.slice ao qn cap) ql):=hZq (.inl (fun X hX => hv.later hX))
 have HS:=hZq hs
 have HH:=hZq hsh
 clear hs hsh
 have CBo:=blk4 CB.out
 have LBo:=blk7 LB.out
 go_enter Try.func9,Try.ntmps9
 go_wp2_with fail
 clear CBo LBo
 refine (lmay_any V.out HS.out hl la sn seq tok at' dg ca cb cd ce h1).mono ?_
 rintro e w4 ⟨rfl,b4⟩
 replace CB:=hZq (upQ CB.out b4)
 replace LB:=hZq (upQ LB.out b4)
 replace RB:=hZq (upQ RB.out b4)
 replace V:=hZq (V.out.later b4)
 replace T:=hZq (T.out.later b4)
 replace KQ0:=hZq (KQ.later KQ0.out b4)
 replace HB:=hZq (below2Z HB.out b4)
 clear b4
 have CBo:=blk4 CB.out
 have LBo:=blk7 LB.out
 go_wp2_with fail
 clear CBo LBo
 refine (dimay_eq T.out HH.out h2).mono ?_
 rintro e w5 ⟨rfl,b5⟩
 replace CB:=hZq (upQ CB.out b5)
 replace LB:=hZq (upQ LB.out b5)
 replace RB:=hZq (upQ RB.out b5)
 replace V:=hZq (V.out.later b5)
 replace T:=hZq (T.out.later b5)
 replace KQ0:=hZq (KQ.later KQ0.out b5)
 replace HB:=hZq (below2Z HB.out b5)
 clear b5
 have CBo:=blk4 CB.out
 have LBo:=blk7 LB.out
 go_wp2_with fail
 clear CBo LBo
 refine (ltick_any now h3 _).mono ?_
 rintro e w90 ⟨rfl,rfl⟩
 have LBo:=blk7 LB.out
 have RBo:=blk7 RB.out
 go_wp2_with fail
 have hz:=stN7_heap RB.out (.int .i64 seq) (.slice ao qn cap) (.bool la) (.int .i64 tok) (.int .i64 at') (.bool sn) (.int .i64 dg)
 have KQz:=KQ0.out.past RB.out (by decide) (fun k hk => stN7_far w5 (w.heap.size+1+1) (.int .i64 seq) (.slice ao qn cap) (.bool la) (.int .i64 tok) (.int .i64 at') (.bool sn) (.int .i64 dg) hk)
 have KFz:=kf_nil w (stN7 w5 (w.heap.size+1+1) (.int .i64 seq) (.slice ao qn cap) (.bool la) (.int .i64 tok) (.int .i64 at') (.bool sn) (.int .i64 dg))
 have HBz:=stN7_below HB.out hle2 (.int .i64 seq) (.slice ao qn cap) (.bool la) (.int .i64 tok) (.int .i64 at') (.bool sn) (.int .i64 dg)
 obtain⟨⟨z0,z1,z2,z3,z4,z5,z6⟩,-⟩:=blk7 hz
 unfold stN7 at z0 z1 z2 z3 z4 z5 z6
 refine bodyPost_ret (v:=.tuple #[.agg #[.int .i64 seq,.slice ao qn cap,.bool la,.int .i64 tok,.int .i64 at',.bool sn,.int .i64 dg],.slice none 0 0]) (by simp [results,Try.results9,go_sem,z0,z1,z2,z3,z4,z5,z6]) rfl ⟨_,_,[],rfl,KQz.chgs HBz,KFz,rfl,HBz⟩

theorem lemit_in {w:World} {v vt:Value} {ql:List Chg} {view:List Row} (hv:Chgs w v ql) (ht:Tab w vt view) (hs:ShortC ql) (hl:ql.length≤100) (hsh:Short view) (ca cb cd ce seq tok at' dg now:Int) (la sn:Bool) (h1:Hid (lnMay ⟨ca,cb,cd,ce⟩ ⟨seq,⟨ql,la⟩,⟨tok,at'⟩,sn,dg⟩=true)) (h2:Hid (diMay view=true)) (h3:Hid (pcTime now=true)) {M:Lnk} {fs:List Frm} (hr:Hid (lnRun ⟨ca,cb,cd,ce⟩ view now 65 ⟨seq,⟨ql,la⟩,⟨tok,at'⟩,sn,dg⟩=(M,fs))) :
  Calls Try.prog 9 #[.agg #[.int .i64 ca,.int .i64 cb,.int .i64 cd,.int .i64 ce],.agg #[.int .i64 seq,v,.bool la,.int .i64 tok,.int .i64 at',.bool sn,.int .i64 dg],vt,.int .i64 now] w (Emitted w M fs):=by
 obtain⟨qn,hqn⟩ : ∃ n,ql.length=n:=⟨_,rfl⟩
 obtain⟨ao,cap,rfl⟩:=chgs_shape hv hqn
 obtain⟨CB,LB,RB,HB⟩:=ent3 w (.cells #[.int .i64 ca,.int .i64 cb,.int .i64 cd,.int .i64 ce] 23) (.cells #[.int .i64 seq,.slice ao qn cap,.bool la,.int .i64 tok,.int .i64 at',.bool sn,.int .i64 dg] 33) (.cells #[.int .i64 0,.slice none 0 0,.bool false,.int .i64 0,.int .i64 0,.bool false,.int .i64 0] 33)
 have V:=hZq (hv.later HB.out)
 have T:=hZq (ht.later HB.out)
 have hle1:w.heap.size≤w.heap.size+1:=Nat.le_succ _
 have hle2:w.heap.size≤w.heap.size+1+1:=by omega
 have KQ0:Hid (KQ w (((w.alloc (.cells #[.int .i64 ca,.int .i64 cb,.int .i64 cd,.int .i64 ce] 23)).alloc (.cells #[.int .i64 seq,.slice ao qn cap,.bool la,.int .i64 tok,.int .i64 at',.bool sn,.int .i64 dg] 33)).alloc (.cells #[.int .i64 0,.slice none 0 0,.bool false,.int .i64 0,.int .i64 0,.bool false,.int .i64 0] 33)) (.slice ao qn cap) ql):=hZq (.inl (fun X hX => hv.later hX))
 have HS:=hZq hs
 have HH:=hZq hsh
 obtain⟨vn,hvn⟩ : ∃ n,view.length=n:=⟨_,rfl⟩
 have HVN:=hZq hvn
 obtain⟨ta,tc,rfl⟩:=tab_shapeL ht hvn
 have HT:Hid (∀ X,Below w.heap.size w X→Tab X (.slice ta vn tc) view):=hZq (fun X hX => ht.later hX)
 obtain⟨hn0,hn1⟩:=pcTime_iff.1 h3.out
 have hvl:view.length≤1000:=by have:=(diMay_iff.1 h2.out).1; omega
 have HE0:=hZq (emp_start (view:=view) (now:=now) h1.out)
 clear hs hsh hv ht hvn hqn
 have CBo:=blk4 CB.out
 have LBo:=blk7 LB.out
 go_enter Try.func9,Try.ntmps9
 go_wp2_with fail
 clear CBo LBo
 refine (lmay_any V.out HS.out hl la sn seq tok at' dg ca cb cd ce h1).mono ?_
 rintro e w4 ⟨rfl,b4⟩
 replace CB:=hZq (upQ CB.out b4)
 replace LB:=hZq (upQ LB.out b4)
 replace RB:=hZq (upQ RB.out b4)
 replace V:=hZq (V.out.later b4)
 replace T:=hZq (T.out.later b4)
 replace KQ0:=hZq (KQ.later KQ0.out b4)
 replace HB:=hZq (below2Z HB.out b4)
 clear b4
 have CBo:=blk4 CB.out
 have LBo:=blk7 LB.out
 go_wp2_with fail
 clear CBo LBo
 refine (dimay_eq T.out HH.out h2).mono ?_
 rintro e w5 ⟨rfl,b5⟩
 replace CB:=hZq (upQ CB.out b5)
 replace LB:=hZq (upQ LB.out b5)
 replace RB:=hZq (upQ RB.out b5)
 replace V:=hZq (V.out.later b5)
 replace T:=hZq (T.out.later b5)
 replace KQ0:=hZq (KQ.later KQ0.out b5)
 replace HB:=hZq (below2Z HB.out b5)
 clear b5
 have CBo:=blk4 CB.out
 have LBo:=blk7 LB.out
 go_wp2_with fail
 clear CBo LBo
 refine (ltick_any now h3 _).mono ?_
 rintro e w90 ⟨rfl,rfl⟩
 clear V
 clear T
 clear HS hl
 have CBo:=blk4 CB.out
 have b6:=bl_newZ w5 (.cells #[.int .i64 ca,.int .i64 cb,.int .i64 cd,.int .i64 ce,.slice ta vn tc,.int .i64 now] 65)
 have MB:=newQ w5 (.cells #[.int .i64 ca,.int .i64 cb,.int .i64 cd,.int .i64 ce,.slice ta vn tc,.int .i64 now] 65)
 have hMB:w.heap.size≤w5.heap.size:=HB.out.size
 replace CB:=hZq (upQ CB.out b6)
 replace LB:=hZq (upQ LB.out b6)
 replace RB:=hZq (upQ RB.out b6)
 replace KQ0:=hZq (KQ.later KQ0.out b6)
 replace HB:=hZq (below2Z HB.out b6)
 clear b6
 replace MB:=hZq MB
 go_upto_region 5 with fail
 clear CBo
 generalize w5.alloc (.cells #[.int .i64 ca,.int .i64 cb,.int .i64 cd,.int .i64 ce,.slice ta vn tc,.int .i64 now] 65)=w7 at CB LB RB MB KQ0 HB ⊢
 have KF0:=hZq (kf_nil w w7)
 generalize w5.heap.size=mbn at MB hMB
 obtain⟨L0,hL0⟩ : ∃ L:Lnk,L=⟨seq,⟨ql,la⟩,⟨tok,at'⟩,sn,dg⟩:=⟨_,rfl⟩
 have HR:Hid (lnRun ⟨ca,cb,cd,ce⟩ view now 65 L0=(M,fs)):=hZq (by rw [hL0]; exact hr.out)
 have HE:Hid (EmP ⟨ca,cb,cd,ce⟩ view now L0 ⟨seq,⟨ql,la⟩,⟨tok,at'⟩,sn,dg⟩ 65 []):=hZq (by rw [hL0]; exact HE0.out)
 clear hL0 hr HE0 h1
 go_loopw [11] (fun fr wr => ∃ (seq tok at' dg:Int) (sn la:Bool) (ql:List Chg) (qa:Option Addr) (qn qc:Nat) (ps:List FrS) (fa:Option Addr) (fc n:Nat),fr=.slice fa ps.length fc∧Hid (EmP ⟨ca,cb,cd,ce⟩ view now L0 ⟨seq,⟨ql,la⟩,⟨tok,at'⟩,sn,dg⟩ n (ps.map FrS.f))∧Hid (wr.heap[w.heap.size]?=some (.cells #[.int .i64 ca,.int .i64 cb,.int .i64 cd,.int .i64 ce] 23 (0,0)))∧Hid (wr.heap[w.heap.size+1]?=some (.cells #[.int .i64 seq,.slice qa qn qc,.bool la,.int .i64 tok,.int .i64 at',.bool sn,.int .i64 dg] 33 (0,0)))∧Hid (wr.heap[w.heap.size+1+1]?=some (.cells #[.int .i64 0,.slice none 0 0,.bool false,.int .i64 0,.int .i64 0,.bool false,.int .i64 0] 33 (0,0)))∧Hid (wr.heap[mbn]?=some (.cells #[.int .i64 ca,.int .i64 cb,.int .i64 cd,.int .i64 ce,.slice ta vn tc,.int .i64 now] 65 (0,0)))∧Hid (KQ w wr (.slice qa qn qc) ql)∧Hid (KF w wr fr ps)∧Hid (Below w.heap.size w wr)) (fun fr _ => 70 - slLen fr)
 case atStart => exact⟨seq,tok,at',dg,sn,la,ql,ao,qn,cap,[],none,0,65,rfl,HE,CB,LB,RB,MB,KQ0,KF0,HB⟩
 case round =>
  clear CB LB RB MB KQ0 KF0 HB HE hMB
  obtain⟨seq,tok,at',dg,sn,la,ql,qa,qn,qc,ps,fa,fc,n,rfl,HE,CB,LB,RB,MB,KQ0,KF0,HB⟩:=hrel
  obtain⟨hsc,hql,hs0,hs1,hd0,hd1⟩:=lnMay_short HE.out.1
  simp only at hsc hql hs0 hs1 hd0 hd1
  replace hsc:=hZq hsc
  have hle3:w.heap.size≤w.heap.size+1:=Nat.le_succ _
  have hmb:=(Array.getElem?_eq_some_iff.1 MB.out).1
  have hwr:=HB.out.size
  have HBr:=hZq (Below.refl wr.heap.size wr)
  have KFr:=KF0
  by_cases hsq:seq < 1099511627776
  case neg =>
   have t1:decide (seq < 1099511627776)=false:=by simp; omega
   have LBo:=blk7 LB.out
   have RBo:=blk7 RB.out
   go_upto_region 15 with fail
   clear LBo RBo t1
   have hend:=emp_end HE.out (stp_seq (by show _≤seq; omega))
   rw [HR.out] at hend
   simp only [Prod.mk.injEq] at hend
   obtain⟨rfl,rfl⟩:=hend
   clear HE HR
   have LBo:=blk7 LB.out
   have RBo:=blk7 RB.out
   go_wp2_with fail
   have hz:=stN7_heap RB.out (.int .i64 seq) (.slice qa qn qc) (.bool la) (.int .i64 tok) (.int .i64 at') (.bool sn) (.int .i64 dg)
   have KQz:=KQ0.out.past RB.out (by decide) (fun k hk => stN7_far wr (w.heap.size+1+1) (.int .i64 seq) (.slice qa qn qc) (.bool la) (.int .i64 tok) (.int .i64 at') (.bool sn) (.int .i64 dg) hk)
   have KFz:=KF0.out.past RB.out (by decide) (by decide) (fun k hk => stN7_far wr (w.heap.size+1+1) (.int .i64 seq) (.slice qa qn qc) (.bool la) (.int .i64 tok) (.int .i64 at') (.bool sn) (.int .i64 dg) hk)
   have HBz:=stN7_below HB.out hle2 (.int .i64 seq) (.slice qa qn qc) (.bool la) (.int .i64 tok) (.int .i64 at') (.bool sn) (.int .i64 dg)
   obtain⟨⟨z0,z1,z2,z3,z4,z5,z6⟩,-⟩:=blk7 hz
   unfold stN7 at z0 z1 z2 z3 z4 z5 z6
   refine bodyPost_ret (v:=.tuple #[.agg #[.int .i64 seq,.slice qa qn qc,.bool la,.int .i64 tok,.int .i64 at',.bool sn,.int .i64 dg],.slice fa ps.length fc]) (by simp [results,Try.results9,go_sem,z0,z1,z2,z3,z4,z5,z6]) rfl ⟨_,_,ps,rfl,KQz.chgs HBz,KFz,rfl,HBz⟩
  have t1:decide (seq < 1099511627776)=true:=by simp; omega
  have hw1:IntKind.i64.wrap (seq+1)=seq+1:=IntWalk.i64_in _ (by omega)
  obtain⟨⟨⟨bx,bt⟩,is⟩,hp⟩ : ∃ p,pcTake ⟨ca,cb,cd,ce⟩ ⟨tok,at'⟩ now=p:=⟨_,rfl⟩
  have HP:=hZq hp
  clear hp
  cases sn with
  | true =>
   have MBo:=blk6 MB.out
   have LBo:=blk7 LB.out
   go_wp2_with fail
   clear MBo LBo t1
   refine (lnext_s (KQ0.out.chgs HB.out) (HT.out _ HB.out) seq tok at' dg ca cb cd ce now la (by omega)).mono ?_
   rintro e w101 ⟨u,rfl,hu,b101⟩
   replace CB:=hZq (upQ CB.out b101)
   replace LB:=hZq (upQ LB.out b101)
   replace RB:=hZq (upQ RB.out b101)
   replace MB:=hZq (upQ MB.out b101)
   replace KQ0:=hZq (KQ.later KQ0.out b101)
   replace HBr:=hZq (below2Z HBr.out b101)
   replace KF0:=hZq (KF.later KF0.out b101)
   replace HB:=hZq (below2Z HB.out b101)
   obtain⟨ua,uc,rfl⟩:=tab_shapeL hu.tab HVN.out
   have U:=hZq (ownR_low hu hwr)
   clear hu
   clear b101
   have hlb:=(Array.getElem?_eq_some_iff.1 LB.out).1
   have hrb:=(Array.getElem?_eq_some_iff.1 RB.out).1
   have hmm:=(Array.getElem?_eq_some_iff.1 MB.out).1
   have hxfr:=HBr.out.size
   have b102:=bl_newZ w101 (.cells #[.int .i64 3,.int .i64 0,.bool false,.string ⟨#[]⟩,.int .i64 0,.int .i64 0,.int .i64 0,.string ⟨#[]⟩,.int .u64 0,.slice ua vn uc] 49)
   have XF:=newQ w101 (.cells #[.int .i64 3,.int .i64 0,.bool false,.string ⟨#[]⟩,.int .i64 0,.int .i64 0,.int .i64 0,.string ⟨#[]⟩,.int .u64 0,.slice ua vn uc] 49)
   have hXF:w.heap.size≤w101.heap.size:=HB.out.size
   replace CB:=hZq (upQ CB.out b102)
   replace LB:=hZq (upQ LB.out b102)
   replace RB:=hZq (upQ RB.out b102)
   replace MB:=hZq (upQ MB.out b102)
   replace KQ0:=hZq (KQ.later KQ0.out b102)
   replace HBr:=hZq (below2Z HBr.out b102)
   replace KF0:=hZq (KF.later KF0.out b102)
   replace U:=hZq (OwnR.later U.out b102)
   replace HB:=hZq (below2Z HB.out b102)
   clear b102
   replace XF:=hZq XF
   have b103:=bl_newZ (w101.alloc (.cells #[.int .i64 3,.int .i64 0,.bool false,.string ⟨#[]⟩,.int .i64 0,.int .i64 0,.int .i64 0,.string ⟨#[]⟩,.int .u64 0,.slice ua vn uc] 49)) (.cells #[.int .i64 seq,.slice none 0 0,.bool false,.int .i64 tok,.int .i64 at',.bool false,.int .i64 now] 33)
   have XL:=newQ (w101.alloc (.cells #[.int .i64 3,.int .i64 0,.bool false,.string ⟨#[]⟩,.int .i64 0,.int .i64 0,.int .i64 0,.string ⟨#[]⟩,.int .u64 0,.slice ua vn uc] 49)) (.cells #[.int .i64 seq,.slice none 0 0,.bool false,.int .i64 tok,.int .i64 at',.bool false,.int .i64 now] 33)
   have hXL:w.heap.size≤(w101.alloc (.cells #[.int .i64 3,.int .i64 0,.bool false,.string ⟨#[]⟩,.int .i64 0,.int .i64 0,.int .i64 0,.string ⟨#[]⟩,.int .u64 0,.slice ua vn uc] 49)).heap.size:=HB.out.size
   rw [World.size_alloc] at XL hXL
   replace CB:=hZq (upQ CB.out b103)
   replace LB:=hZq (upQ LB.out b103)
   replace RB:=hZq (upQ RB.out b103)
   replace MB:=hZq (upQ MB.out b103)
   replace XF:=hZq (upQ XF.out b103)
   replace KQ0:=hZq (KQ.later KQ0.out b103)
   replace HBr:=hZq (below2Z HBr.out b103)
   replace KF0:=hZq (KF.later KF0.out b103)
   replace U:=hZq (OwnR.later U.out b103)
   replace HB:=hZq (below2Z HB.out b103)
   clear b103
   replace XL:=hZq XL
   go_upto_region 8 with fail
   generalize (w101.alloc (.cells #[.int .i64 3,.int .i64 0,.bool false,.string ⟨#[]⟩,.int .i64 0,.int .i64 0,.int .i64 0,.string ⟨#[]⟩,.int .u64 0,.slice ua vn uc] 49)).alloc (.cells #[.int .i64 seq,.slice none 0 0,.bool false,.int .i64 tok,.int .i64 at',.bool false,.int .i64 now] 33)=w104 at CB LB RB MB XF XL KQ0 HBr KF0 U HB ⊢
   have CBo:=blk4 CB.out
   have LBo:=blk7 LB.out
   go_wp2_with fail
   clear CBo LBo
   refine (ptake_any ca cb cd ce tok at' now HP _).mono ?_
   rintro e w105 ⟨rfl,b105⟩
   replace CB:=hZq (upQ CB.out b105)
   replace LB:=hZq (upQ LB.out b105)
   replace RB:=hZq (upQ RB.out b105)
   replace MB:=hZq (upQ MB.out b105)
   replace XF:=hZq (upQ XF.out b105)
   replace XL:=hZq (upQ XL.out b105)
   replace KQ0:=hZq (KQ.later KQ0.out b105)
   replace HBr:=hZq (below2Z HBr.out b105)
   replace KF0:=hZq (KF.later KF0.out b105)
   replace U:=hZq (OwnR.later U.out b105)
   replace HB:=hZq (below2Z HB.out b105)
   clear b105
   have hxl:=(Array.getElem?_eq_some_iff.1 XL.out).1
   cases is with
   | false =>
    clear U
    have b156:=bl_newZ w105 (.cells #[.int .i64 bx,.int .i64 bt] 31)
    have XB:=newQ w105 (.cells #[.int .i64 bx,.int .i64 bt] 31)
    have hXB:w.heap.size≤w105.heap.size:=HB.out.size
    replace CB:=hZq (upQ CB.out b156)
    replace LB:=hZq (upQ LB.out b156)
    replace RB:=hZq (upQ RB.out b156)
    replace MB:=hZq (upQ MB.out b156)
    replace XF:=hZq (upQ XF.out b156)
    replace XL:=hZq (upQ XL.out b156)
    replace KQ0:=hZq (KQ.later KQ0.out b156)
    replace HBr:=hZq (below2Z HBr.out b156)
    replace KF0:=hZq (KF.later KF0.out b156)
    replace HB:=hZq (below2Z HB.out b156)
    clear b156
    replace XB:=hZq XB
    go_upto_region 15 with fail
    generalize w105.alloc (.cells #[.int .i64 bx,.int .i64 bt] 31)=w157 at CB LB RB MB XF XL XB KQ0 HBr KF0 HB ⊢
    have hend:=emp_end HE.out (stp_tok HP.out)
    rw [HR.out] at hend
    simp only [Prod.mk.injEq] at hend
    obtain⟨rfl,rfl⟩:=hend
    clear HE HR
    have LBo:=blk7 LB.out
    have RBo:=blk7 RB.out
    go_wp2_with fail
    have hz:=stN7_heap RB.out (.int .i64 seq) (.slice qa qn qc) (.bool la) (.int .i64 tok) (.int .i64 at') (.bool true) (.int .i64 dg)
    have KQz:=KQ0.out.past RB.out (by decide) (fun k hk => stN7_far w157 (w.heap.size+1+1) (.int .i64 seq) (.slice qa qn qc) (.bool la) (.int .i64 tok) (.int .i64 at') (.bool true) (.int .i64 dg) hk)
    have KFz:=KF0.out.past RB.out (by decide) (by decide) (fun k hk => stN7_far w157 (w.heap.size+1+1) (.int .i64 seq) (.slice qa qn qc) (.bool la) (.int .i64 tok) (.int .i64 at') (.bool true) (.int .i64 dg) hk)
    have HBz:=stN7_below HB.out hle2 (.int .i64 seq) (.slice qa qn qc) (.bool la) (.int .i64 tok) (.int .i64 at') (.bool true) (.int .i64 dg)
    obtain⟨⟨z0,z1,z2,z3,z4,z5,z6⟩,-⟩:=blk7 hz
    unfold stN7 at z0 z1 z2 z3 z4 z5 z6
    refine bodyPost_ret (v:=.tuple #[.agg #[.int .i64 seq,.slice qa qn qc,.bool la,.int .i64 tok,.int .i64 at',.bool true,.int .i64 dg],.slice fa ps.length fc]) (by simp [results,Try.results9,go_sem,z0,z1,z2,z3,z4,z5,z6]) rfl ⟨_,_,ps,rfl,KQz.chgs HBz,KFz,rfl,HBz⟩
   | true =>
    obtain⟨he2,hpl⟩:=emp_step HE.out h2.out h3.out (stp_s hsq HP.out)
    rw [List.length_map] at hpl
    have HE2:=hZq he2
    clear he2 HE HP
    have b106:=bl_newZ w105 (.cells #[.int .i64 bx,.int .i64 bt] 31)
    have XB:=newQ w105 (.cells #[.int .i64 bx,.int .i64 bt] 31)
    have hXB:w.heap.size≤w105.heap.size:=HB.out.size
    replace CB:=hZq (upQ CB.out b106)
    replace LB:=hZq (upQ LB.out b106)
    replace RB:=hZq (upQ RB.out b106)
    replace MB:=hZq (upQ MB.out b106)
    replace XF:=hZq (upQ XF.out b106)
    replace XL:=hZq (upQ XL.out b106)
    replace KQ0:=hZq (KQ.later KQ0.out b106)
    replace HBr:=hZq (below2Z HBr.out b106)
    replace KF0:=hZq (KF.later KF0.out b106)
    replace U:=hZq (OwnR.later U.out b106)
    replace HB:=hZq (below2Z HB.out b106)
    clear b106
    replace XB:=hZq XB
    go_upto_region 10 with fail
    generalize w105.alloc (.cells #[.int .i64 bx,.int .i64 bt] 31)=w107 at CB LB RB MB XF XL XB KQ0 HBr KF0 U HB ⊢
    have LBo:=blk7 LB.out
    have XFo:=blk10 XF.out
    go_upto_region 11 with fail
    clear LBo XFo
    have hfar0:∀ k,¬ k=w101.heap.size→(w107.setCell ⟨w101.heap.size,1,none⟩ (.int .i64 seq)).heap[k]?=w107.heap[k]?:=fun k hk => by rw [Below.heap_setCell _ _ _ k hk]
    have CBz:=hZq ((hfar0 (w.heap.size) (blk_ne CB.out XF.out (by decide))).trans CB.out)
    have LBz:=hZq ((hfar0 (w.heap.size+1) (blk_ne LB.out XF.out (by decide))).trans LB.out)
    have RBz:=hZq ((hfar0 (w.heap.size+1+1) (blk_ne RB.out XF.out (by decide))).trans RB.out)
    have MBz:=hZq ((hfar0 (mbn) (blk_ne MB.out XF.out (by decide))).trans MB.out)
    have XFz:=hZq (stS XF.out 1 (.int .i64 seq) [.int .i64 3,.int .i64 seq,.bool false,.string ⟨#[]⟩,.int .i64 0,.int .i64 0,.int .i64 0,.string ⟨#[]⟩,.int .u64 0,.slice ua vn uc] rfl)
    have XLz:=hZq ((hfar0 (w101.heap.size+1) (blk_ne XL.out XF.out (by decide))).trans XL.out)
    have XBz:=hZq ((hfar0 (w105.heap.size) (blk_ne XB.out XF.out (by decide))).trans XB.out)
    have KQ0z:=hZq (KQ0.out.past XF.out (by decide) hfar0)
    have HBrz:Hid (Below wr.heap.size wr (w107.setCell ⟨w101.heap.size,1,none⟩ (.int .i64 seq))):=hZq (HBr.out.setCell hxfr _)
    have KF0z:=hZq (KFr.out.later HBrz.out)
    have Uz:Hid (OwnR (w107.setCell ⟨w101.heap.size,1,none⟩ (.int .i64 seq)) w.heap.size (.slice ua vn uc) view):=hZq (row_past U.out XF.out (by decide) hfar0)
    have HBz:Hid (Below w.heap.size w (w107.setCell ⟨w101.heap.size,1,none⟩ (.int .i64 seq))):=hZq (HB.out.setCell hXF _)
    clear CB LB RB MB XF XL XB KQ0 HBr KF0 U HB hfar0
    generalize w107.setCell ⟨w101.heap.size,1,none⟩ (.int .i64 seq)=w108 at CBz LBz RBz MBz XFz XLz XBz KQ0z HBrz KF0z Uz HBz ⊢
    have CB:=CBz
    have LB:=LBz
    have RB:=RBz
    have MB:=MBz
    have XF:=XFz
    have XL:=XLz
    have XB:=XBz
    have KQ0:=KQ0z
    have HBr:=HBrz
    have KF0:=KF0z
    have U:=Uz
    have HB:=HBz
    clear CBz LBz RBz MBz XFz XLz XBz KQ0z HBrz KF0z Uz HBz
    have XFo:=blk10 XF.out
    have b109:=bl_newZ w108 (.cells #[.int .i64 3,.int .i64 seq,.bool false,.string ⟨#[]⟩,.int .i64 0,.int .i64 0,.int .i64 0,.string ⟨#[]⟩,.int .u64 0,.slice ua vn uc] 49)
    have XA:=newQ w108 (.cells #[.int .i64 3,.int .i64 seq,.bool false,.string ⟨#[]⟩,.int .i64 0,.int .i64 0,.int .i64 0,.string ⟨#[]⟩,.int .u64 0,.slice ua vn uc] 49)
    have hXA:w.heap.size≤w108.heap.size:=HB.out.size
    replace CB:=hZq (upQ CB.out b109)
    replace LB:=hZq (upQ LB.out b109)
    replace RB:=hZq (upQ RB.out b109)
    replace MB:=hZq (upQ MB.out b109)
    replace XF:=hZq (upQ XF.out b109)
    replace XL:=hZq (upQ XL.out b109)
    replace XB:=hZq (upQ XB.out b109)
    replace KQ0:=hZq (KQ.later KQ0.out b109)
    replace HBr:=hZq (below2Z HBr.out b109)
    replace KF0:=hZq (KF.later KF0.out b109)
    replace U:=hZq (OwnR.later U.out b109)
    replace HB:=hZq (below2Z HB.out b109)
    clear b109
    replace XA:=hZq XA
    have SRC:=srcS_new (vals:=frVals) (w:=w108) (r:=(⟨⟨3,seq,false,[],Val.zero,0,view⟩,ua,vn,uc⟩ : FrS)) (cs:=#[.int .i64 3,.int .i64 seq,.bool false,.string ⟨#[]⟩,.int .i64 0,.int .i64 0,.int .i64 0,.string ⟨#[]⟩,.int .u64 0,.slice ua vn uc]) rfl (e:=49) (B:=w108.heap.size) rfl _ rfl
    have KTP:KT w (w108.alloc (.cells #[.int .i64 3,.int .i64 seq,.bool false,.string ⟨#[]⟩,.int .i64 0,.int .i64 0,.int .i64 0,.string ⟨#[]⟩,.int .u64 0,.slice ua vn uc] 49)) (⟨⟨3,seq,false,[],Val.zero,0,view⟩,ua,vn,uc⟩ : FrS):=.inr U.out
    go_wp2_with (at_builtin; go_must (refine wpList_append_fr rfl (.tmp 60) (.tmp 62) rfl w.heap.size _ ps rfl (by exact KF0.out.1) ⟨w108.heap.size,0,none⟩ (⟨⟨3,seq,false,[],Val.zero,0,view⟩,ua,vn,uc⟩ : FrS) rfl SRC (by omega) HB.out.size ?_))
    intro fv w110 ho hbl hfar
    have CBz:=hZq (blk_app CB.out KF0.out.1 (by decide) hfar)
    have LBz:=hZq (blk_app LB.out KF0.out.1 (by decide) hfar)
    have RBz:=hZq (blk_app RB.out KF0.out.1 (by decide) hfar)
    have MBz:=hZq (blk_app MB.out KF0.out.1 (by decide) hfar)
    have XLz:=hZq (blk_app XL.out KF0.out.1 (by decide) hfar)
    have XBz:=hZq (blk_app XB.out KF0.out.1 (by decide) hfar)
    have KQ0z:=hZq (KQ0.out.app KF0.out.1 hfar)
    have KF0z:=hZq (KF0.out.more KTP ho hfar)
    have HBz:=hZq (HB.out.trans hbl)
    clear XFo CB LB RB MB XL XB KQ0 KF0 HB XF XA SRC KTP ho hbl hfar HBr KFr hxfr U
    have CB:=CBz
    have LB:=LBz
    have RB:=RBz
    have MB:=MBz
    have XL:=XLz
    have XB:=XBz
    have KQ0:=KQ0z
    have KF0:=KF0z
    have HB:=HBz
    clear CBz LBz RBz MBz XLz XBz KQ0z KF0z HBz
    obtain⟨fa2,fc2,rfl⟩:=kf_shape KF0.out
    clear KQ0
    have KQ0:Hid (KQ w w110 (.slice none 0 0) []):=hZq (.inl (fun X _ => chgs_nilL X))
    have XLo:=blk7 XL.out
    have LBo:=blk7 LB.out
    go_upto_region 13 with fail
    clear XLo LBo
    have hfar0:∀ k,¬ k=w.heap.size+1→(((((((w110.setCell ⟨w.heap.size+1,0,none⟩ (.int .i64 seq)).setCell ⟨w.heap.size+1,1,none⟩ (.slice none 0 0)).setCell ⟨w.heap.size+1,2,none⟩ (.bool false)).setCell ⟨w.heap.size+1,3,none⟩ (.int .i64 tok)).setCell ⟨w.heap.size+1,4,none⟩ (.int .i64 at')).setCell ⟨w.heap.size+1,5,none⟩ (.bool false)).setCell ⟨w.heap.size+1,6,none⟩ (.int .i64 now)).heap[k]?=w110.heap[k]?:=fun k hk => by rw [Below.heap_setCell _ _ _ k hk,Below.heap_setCell _ _ _ k hk,Below.heap_setCell _ _ _ k hk,Below.heap_setCell _ _ _ k hk,Below.heap_setCell _ _ _ k hk,Below.heap_setCell _ _ _ k hk,Below.heap_setCell _ _ _ k hk]
    have CBz:=hZq ((hfar0 (w.heap.size) (blk_ne CB.out LB.out (by decide))).trans CB.out)
    have LBz:Hid ((((((((w110.setCell ⟨w.heap.size+1,0,none⟩ (.int .i64 seq)).setCell ⟨w.heap.size+1,1,none⟩ (.slice none 0 0)).setCell ⟨w.heap.size+1,2,none⟩ (.bool false)).setCell ⟨w.heap.size+1,3,none⟩ (.int .i64 tok)).setCell ⟨w.heap.size+1,4,none⟩ (.int .i64 at')).setCell ⟨w.heap.size+1,5,none⟩ (.bool false)).setCell ⟨w.heap.size+1,6,none⟩ (.int .i64 now)).heap[w.heap.size+1]?=some (.cells #[.int .i64 seq,.slice none 0 0,.bool false,.int .i64 tok,.int .i64 at',.bool false,.int .i64 now] 33 (0,0))):=hZq (heap_setCell_same _ (w.heap.size+1) 6 _ _ (.int .i64 now) (heap_setCell_same _ (w.heap.size+1) 5 _ _ (.bool false) (heap_setCell_same _ (w.heap.size+1) 4 _ _ (.int .i64 at') (heap_setCell_same _ (w.heap.size+1) 3 _ _ (.int .i64 tok) (heap_setCell_same _ (w.heap.size+1) 2 _ _ (.bool false) (heap_setCell_same _ (w.heap.size+1) 1 _ _ (.slice none 0 0) (heap_setCell_same _ (w.heap.size+1) 0 _ _ (.int .i64 seq) LB.out)))))))
    have RBz:=hZq ((hfar0 (w.heap.size+1+1) (by omega)).trans RB.out)
    have MBz:=hZq ((hfar0 (mbn) (blk_ne MB.out LB.out (by decide))).trans MB.out)
    have XLz:=hZq ((hfar0 (w101.heap.size+1) (by omega)).trans XL.out)
    have XBz:=hZq ((hfar0 (w105.heap.size) (blk_ne XB.out LB.out (by decide))).trans XB.out)
    have KQ0z:=hZq (KQ0.out.past LB.out (by decide) hfar0)
    have KF0z:=hZq (KF0.out.past LB.out (by decide) (by decide) hfar0)
    have HBz:Hid (Below w.heap.size w (((((((w110.setCell ⟨w.heap.size+1,0,none⟩ (.int .i64 seq)).setCell ⟨w.heap.size+1,1,none⟩ (.slice none 0 0)).setCell ⟨w.heap.size+1,2,none⟩ (.bool false)).setCell ⟨w.heap.size+1,3,none⟩ (.int .i64 tok)).setCell ⟨w.heap.size+1,4,none⟩ (.int .i64 at')).setCell ⟨w.heap.size+1,5,none⟩ (.bool false)).setCell ⟨w.heap.size+1,6,none⟩ (.int .i64 now))):=hZq (((((((HB.out.setCell hle1 _).setCell hle1 _).setCell hle1 _).setCell hle1 _).setCell hle1 _).setCell hle1 _).setCell hle1 _)
    clear CB LB RB MB XL XB KQ0 KF0 HB hfar0
    generalize ((((((w110.setCell ⟨w.heap.size+1,0,none⟩ (.int .i64 seq)).setCell ⟨w.heap.size+1,1,none⟩ (.slice none 0 0)).setCell ⟨w.heap.size+1,2,none⟩ (.bool false)).setCell ⟨w.heap.size+1,3,none⟩ (.int .i64 tok)).setCell ⟨w.heap.size+1,4,none⟩ (.int .i64 at')).setCell ⟨w.heap.size+1,5,none⟩ (.bool false)).setCell ⟨w.heap.size+1,6,none⟩ (.int .i64 now)=w111 at CBz LBz RBz MBz XLz XBz KQ0z KF0z HBz ⊢
    have CB:=CBz
    have LB:=LBz
    have RB:=RBz
    have MB:=MBz
    have XL:=XLz
    have XB:=XBz
    have KQ0:=KQ0z
    have KF0:=KF0z
    have HB:=HBz
    clear CBz LBz RBz MBz XLz XBz KQ0z KF0z HBz
    clear XL
    have XBo:=blk2 XB.out
    have LBo:=blk7 LB.out
    go_upto_region 14 with fail
    clear XBo LBo
    have hfar0:∀ k,¬ k=w.heap.size+1→((w111.setCell ⟨w.heap.size+1,3,none⟩ (.int .i64 bx)).setCell ⟨w.heap.size+1,4,none⟩ (.int .i64 bt)).heap[k]?=w111.heap[k]?:=fun k hk => by rw [Below.heap_setCell _ _ _ k hk,Below.heap_setCell _ _ _ k hk]
    have CBz:=hZq ((hfar0 (w.heap.size) (blk_ne CB.out LB.out (by decide))).trans CB.out)
    have LBz:Hid (((w111.setCell ⟨w.heap.size+1,3,none⟩ (.int .i64 bx)).setCell ⟨w.heap.size+1,4,none⟩ (.int .i64 bt)).heap[w.heap.size+1]?=some (.cells #[.int .i64 seq,.slice none 0 0,.bool false,.int .i64 bx,.int .i64 bt,.bool false,.int .i64 now] 33 (0,0))):=hZq (heap_setCell_same _ (w.heap.size+1) 4 _ _ (.int .i64 bt) (heap_setCell_same _ (w.heap.size+1) 3 _ _ (.int .i64 bx) LB.out))
    have RBz:=hZq ((hfar0 (w.heap.size+1+1) (by omega)).trans RB.out)
    have MBz:=hZq ((hfar0 (mbn) (blk_ne MB.out LB.out (by decide))).trans MB.out)
    have XBz:=hZq ((hfar0 (w105.heap.size) (blk_ne XB.out LB.out (by decide))).trans XB.out)
    have KQ0z:=hZq (KQ0.out.past LB.out (by decide) hfar0)
    have KF0z:=hZq (KF0.out.past LB.out (by decide) (by decide) hfar0)
    have HBz:Hid (Below w.heap.size w ((w111.setCell ⟨w.heap.size+1,3,none⟩ (.int .i64 bx)).setCell ⟨w.heap.size+1,4,none⟩ (.int .i64 bt))):=hZq ((HB.out.setCell hle1 _).setCell hle1 _)
    clear CB LB RB MB XB KQ0 KF0 HB hfar0
    generalize (w111.setCell ⟨w.heap.size+1,3,none⟩ (.int .i64 bx)).setCell ⟨w.heap.size+1,4,none⟩ (.int .i64 bt)=w112 at CBz LBz RBz MBz XBz KQ0z KF0z HBz ⊢
    have CB:=CBz
    have LB:=LBz
    have RB:=RBz
    have MB:=MBz
    have XB:=XBz
    have KQ0:=KQ0z
    have KF0:=KF0z
    have HB:=HBz
    clear CBz LBz RBz MBz XBz KQ0z KF0z HBz
    clear XB
    have LBo:=blk7 LB.out
    go_wp2_with fail
    clear LBo
    have hfar0:∀ k,¬ k=w.heap.size+1→(w112.setCell ⟨w.heap.size+1,0,none⟩ (.int .i64 (seq+1))).heap[k]?=w112.heap[k]?:=fun k hk => by rw [Below.heap_setCell _ _ _ k hk]
    have CBz:=hZq ((hfar0 (w.heap.size) (blk_ne CB.out LB.out (by decide))).trans CB.out)
    have LBz:=hZq (stS LB.out 0 (.int .i64 (seq+1)) [.int .i64 (seq+1),.slice none 0 0,.bool false,.int .i64 bx,.int .i64 bt,.bool false,.int .i64 now] rfl)
    have RBz:=hZq ((hfar0 (w.heap.size+1+1) (by omega)).trans RB.out)
    have MBz:=hZq ((hfar0 (mbn) (blk_ne MB.out LB.out (by decide))).trans MB.out)
    have KQ0z:=hZq (KQ0.out.past LB.out (by decide) hfar0)
    have KF0z:=hZq (KF0.out.past LB.out (by decide) (by decide) hfar0)
    have HBz:Hid (Below w.heap.size w (w112.setCell ⟨w.heap.size+1,0,none⟩ (.int .i64 (seq+1)))):=hZq (HB.out.setCell hle1 _)
    clear CB LB RB MB KQ0 KF0 HB hfar0
    have CB:=CBz
    have LB:=LBz
    have RB:=RBz
    have MB:=MBz
    have KQ0:=KQ0z
    have KF0:=KF0z
    have HB:=HBz
    clear CBz LBz RBz MBz KQ0z KF0z HBz
    go_roundw
    case rel => exact⟨seq+1,bx,bt,now,false,false,[],none,0,0,ps ++ [(⟨⟨3,seq,false,[],Val.zero,0,view⟩,ua,vn,uc⟩ : FrS)],fa2,fc2,n - 1,rfl,hZq (by rw [List.map_append]; exact HE2.out),CB,LB,RB,MB,KQ0,KF0,HB⟩
    case measure => simp [slLen]; omega
  | false =>
   rcases ql with _ | ⟨⟨xc,xo,⟨xa,xb,xd,xs⟩⟩,r⟩
   case cons =>
    have hrl:r.length < 1000:=by simp only [List.length_cons] at hql; omega
    obtain⟨rn,hrn⟩ : ∃ n,r.length=n:=⟨_,rfl⟩
    have HRN:=hZq hrn
    clear hrn hql
    have MBo:=blk6 MB.out
    have LBo:=blk7 LB.out
    go_wp2_with fail
    clear MBo LBo t1
    refine (lnext_d (KQ0.out.chgs HB.out) (HT.out _ HB.out) seq tok at' dg ca cb cd ce now la rfl hrl).mono ?_
    rintro e w101 ⟨u,rfl,hu,b101⟩
    replace CB:=hZq (upQ CB.out b101)
    replace LB:=hZq (upQ LB.out b101)
    replace RB:=hZq (upQ RB.out b101)
    replace MB:=hZq (upQ MB.out b101)
    replace KQ0:=hZq (KQ.later KQ0.out b101)
    replace HBr:=hZq (below2Z HBr.out b101)
    replace KF0:=hZq (KF.later KF0.out b101)
    replace HB:=hZq (below2Z HB.out b101)
    obtain⟨a2,c2,rfl⟩:=ownQ_shapeL hu HRN.out
    have QN:Hid (KQ w _ _ r):=hZq (.inr (ownS_low hu hwr))
    clear hu
    clear b101
    have hlb:=(Array.getElem?_eq_some_iff.1 LB.out).1
    have hrb:=(Array.getElem?_eq_some_iff.1 RB.out).1
    have hmm:=(Array.getElem?_eq_some_iff.1 MB.out).1
    have hxfr:=HBr.out.size
    have b102:=bl_newZ w101 (.cells #[.int .i64 1,.int .i64 0,.bool xo,.string ⟨xc.toArray⟩,.int .i64 xa,.int .i64 xb,.int .i64 xd,.string ⟨xs.toArray⟩,.int .u64 0,.slice none 0 0] 49)
    have XF:=newQ w101 (.cells #[.int .i64 1,.int .i64 0,.bool xo,.string ⟨xc.toArray⟩,.int .i64 xa,.int .i64 xb,.int .i64 xd,.string ⟨xs.toArray⟩,.int .u64 0,.slice none 0 0] 49)
    have hXF:w.heap.size≤w101.heap.size:=HB.out.size
    replace CB:=hZq (upQ CB.out b102)
    replace LB:=hZq (upQ LB.out b102)
    replace RB:=hZq (upQ RB.out b102)
    replace MB:=hZq (upQ MB.out b102)
    replace KQ0:=hZq (KQ.later KQ0.out b102)
    replace HBr:=hZq (below2Z HBr.out b102)
    replace KF0:=hZq (KF.later KF0.out b102)
    replace QN:=hZq (KQ.later QN.out b102)
    replace HB:=hZq (below2Z HB.out b102)
    clear b102
    replace XF:=hZq XF
    have b103:=bl_newZ (w101.alloc (.cells #[.int .i64 1,.int .i64 0,.bool xo,.string ⟨xc.toArray⟩,.int .i64 xa,.int .i64 xb,.int .i64 xd,.string ⟨xs.toArray⟩,.int .u64 0,.slice none 0 0] 49)) (.cells #[.int .i64 seq,.slice a2 rn c2,.bool la,.int .i64 tok,.int .i64 at',.bool false,.int .i64 dg] 33)
    have XL:=newQ (w101.alloc (.cells #[.int .i64 1,.int .i64 0,.bool xo,.string ⟨xc.toArray⟩,.int .i64 xa,.int .i64 xb,.int .i64 xd,.string ⟨xs.toArray⟩,.int .u64 0,.slice none 0 0] 49)) (.cells #[.int .i64 seq,.slice a2 rn c2,.bool la,.int .i64 tok,.int .i64 at',.bool false,.int .i64 dg] 33)
    have hXL:w.heap.size≤(w101.alloc (.cells #[.int .i64 1,.int .i64 0,.bool xo,.string ⟨xc.toArray⟩,.int .i64 xa,.int .i64 xb,.int .i64 xd,.string ⟨xs.toArray⟩,.int .u64 0,.slice none 0 0] 49)).heap.size:=HB.out.size
    rw [World.size_alloc] at XL hXL
    replace CB:=hZq (upQ CB.out b103)
    replace LB:=hZq (upQ LB.out b103)
    replace RB:=hZq (upQ RB.out b103)
    replace MB:=hZq (upQ MB.out b103)
    replace XF:=hZq (upQ XF.out b103)
    replace KQ0:=hZq (KQ.later KQ0.out b103)
    replace HBr:=hZq (below2Z HBr.out b103)
    replace KF0:=hZq (KF.later KF0.out b103)
    replace QN:=hZq (KQ.later QN.out b103)
    replace HB:=hZq (below2Z HB.out b103)
    clear b103
    replace XL:=hZq XL
    go_upto_region 8 with fail
    generalize (w101.alloc (.cells #[.int .i64 1,.int .i64 0,.bool xo,.string ⟨xc.toArray⟩,.int .i64 xa,.int .i64 xb,.int .i64 xd,.string ⟨xs.toArray⟩,.int .u64 0,.slice none 0 0] 49)).alloc (.cells #[.int .i64 seq,.slice a2 rn c2,.bool la,.int .i64 tok,.int .i64 at',.bool false,.int .i64 dg] 33)=w104 at CB LB RB MB XF XL KQ0 HBr KF0 QN HB ⊢
    have CBo:=blk4 CB.out
    have LBo:=blk7 LB.out
    go_wp2_with fail
    clear CBo LBo
    refine (ptake_any ca cb cd ce tok at' now HP _).mono ?_
    rintro e w105 ⟨rfl,b105⟩
    replace CB:=hZq (upQ CB.out b105)
    replace LB:=hZq (upQ LB.out b105)
    replace RB:=hZq (upQ RB.out b105)
    replace MB:=hZq (upQ MB.out b105)
    replace XF:=hZq (upQ XF.out b105)
    replace XL:=hZq (upQ XL.out b105)
    replace KQ0:=hZq (KQ.later KQ0.out b105)
    replace HBr:=hZq (below2Z HBr.out b105)
    replace KF0:=hZq (KF.later KF0.out b105)
    replace QN:=hZq (KQ.later QN.out b105)
    replace HB:=hZq (below2Z HB.out b105)
    clear b105
    have hxl:=(Array.getElem?_eq_some_iff.1 XL.out).1
    cases is with
    | false =>
     clear QN
     have b156:=bl_newZ w105 (.cells #[.int .i64 bx,.int .i64 bt] 31)
     have XB:=newQ w105 (.cells #[.int .i64 bx,.int .i64 bt] 31)
     have hXB:w.heap.size≤w105.heap.size:=HB.out.size
     replace CB:=hZq (upQ CB.out b156)
     replace LB:=hZq (upQ LB.out b156)
     replace RB:=hZq (upQ RB.out b156)
     replace MB:=hZq (upQ MB.out b156)
     replace XF:=hZq (upQ XF.out b156)
     replace XL:=hZq (upQ XL.out b156)
     replace KQ0:=hZq (KQ.later KQ0.out b156)
     replace HBr:=hZq (below2Z HBr.out b156)
     replace KF0:=hZq (KF.later KF0.out b156)
     replace HB:=hZq (below2Z HB.out b156)
     clear b156
     replace XB:=hZq XB
     go_upto_region 15 with fail
     generalize w105.alloc (.cells #[.int .i64 bx,.int .i64 bt] 31)=w157 at CB LB RB MB XF XL XB KQ0 HBr KF0 HB ⊢
     have hend:=emp_end HE.out (stp_tok HP.out)
     rw [HR.out] at hend
     simp only [Prod.mk.injEq] at hend
     obtain⟨rfl,rfl⟩:=hend
     clear HE HR
     have LBo:=blk7 LB.out
     have RBo:=blk7 RB.out
     go_wp2_with fail
     have hz:=stN7_heap RB.out (.int .i64 seq) (.slice qa qn qc) (.bool la) (.int .i64 tok) (.int .i64 at') (.bool false) (.int .i64 dg)
     have KQz:=KQ0.out.past RB.out (by decide) (fun k hk => stN7_far w157 (w.heap.size+1+1) (.int .i64 seq) (.slice qa qn qc) (.bool la) (.int .i64 tok) (.int .i64 at') (.bool false) (.int .i64 dg) hk)
     have KFz:=KF0.out.past RB.out (by decide) (by decide) (fun k hk => stN7_far w157 (w.heap.size+1+1) (.int .i64 seq) (.slice qa qn qc) (.bool la) (.int .i64 tok) (.int .i64 at') (.bool false) (.int .i64 dg) hk)
     have HBz:=stN7_below HB.out hle2 (.int .i64 seq) (.slice qa qn qc) (.bool la) (.int .i64 tok) (.int .i64 at') (.bool false) (.int .i64 dg)
     obtain⟨⟨z0,z1,z2,z3,z4,z5,z6⟩,-⟩:=blk7 hz
     unfold stN7 at z0 z1 z2 z3 z4 z5 z6
     refine bodyPost_ret (v:=.tuple #[.agg #[.int .i64 seq,.slice qa qn qc,.bool la,.int .i64 tok,.int .i64 at',.bool false,.int .i64 dg],.slice fa ps.length fc]) (by simp [results,Try.results9,go_sem,z0,z1,z2,z3,z4,z5,z6]) rfl ⟨_,_,ps,rfl,KQz.chgs HBz,KFz,rfl,HBz⟩
    | true =>
     obtain⟨he2,hpl⟩:=emp_step HE.out h2.out h3.out (stp_d hsq HP.out)
     rw [List.length_map] at hpl
     have HE2:=hZq he2
     clear he2 HE HP
     have b106:=bl_newZ w105 (.cells #[.int .i64 bx,.int .i64 bt] 31)
     have XB:=newQ w105 (.cells #[.int .i64 bx,.int .i64 bt] 31)
     have hXB:w.heap.size≤w105.heap.size:=HB.out.size
     replace CB:=hZq (upQ CB.out b106)
     replace LB:=hZq (upQ LB.out b106)
     replace RB:=hZq (upQ RB.out b106)
     replace MB:=hZq (upQ MB.out b106)
     replace XF:=hZq (upQ XF.out b106)
     replace XL:=hZq (upQ XL.out b106)
     replace KQ0:=hZq (KQ.later KQ0.out b106)
     replace HBr:=hZq (below2Z HBr.out b106)
     replace KF0:=hZq (KF.later KF0.out b106)
     replace QN:=hZq (KQ.later QN.out b106)
     replace HB:=hZq (below2Z HB.out b106)
     clear b106
     replace XB:=hZq XB
     go_upto_region 10 with fail
     generalize w105.alloc (.cells #[.int .i64 bx,.int .i64 bt] 31)=w107 at CB LB RB MB XF XL XB KQ0 HBr KF0 QN HB ⊢
     have LBo:=blk7 LB.out
     have XFo:=blk10 XF.out
     go_upto_region 11 with fail
     clear LBo XFo
     have hfar0:∀ k,¬ k=w101.heap.size→(w107.setCell ⟨w101.heap.size,1,none⟩ (.int .i64 seq)).heap[k]?=w107.heap[k]?:=fun k hk => by rw [Below.heap_setCell _ _ _ k hk]
     have CBz:=hZq ((hfar0 (w.heap.size) (blk_ne CB.out XF.out (by decide))).trans CB.out)
     have LBz:=hZq ((hfar0 (w.heap.size+1) (blk_ne LB.out XF.out (by decide))).trans LB.out)
     have RBz:=hZq ((hfar0 (w.heap.size+1+1) (blk_ne RB.out XF.out (by decide))).trans RB.out)
     have MBz:=hZq ((hfar0 (mbn) (blk_ne MB.out XF.out (by decide))).trans MB.out)
     have XFz:=hZq (stS XF.out 1 (.int .i64 seq) [.int .i64 1,.int .i64 seq,.bool xo,.string ⟨xc.toArray⟩,.int .i64 xa,.int .i64 xb,.int .i64 xd,.string ⟨xs.toArray⟩,.int .u64 0,.slice none 0 0] rfl)
     have XLz:=hZq ((hfar0 (w101.heap.size+1) (blk_ne XL.out XF.out (by decide))).trans XL.out)
     have XBz:=hZq ((hfar0 (w105.heap.size) (blk_ne XB.out XF.out (by decide))).trans XB.out)
     have KQ0z:=hZq (KQ0.out.past XF.out (by decide) hfar0)
     have HBrz:Hid (Below wr.heap.size wr (w107.setCell ⟨w101.heap.size,1,none⟩ (.int .i64 seq))):=hZq (HBr.out.setCell hxfr _)
     have KF0z:=hZq (KFr.out.later HBrz.out)
     have QNz:=hZq (QN.out.past XF.out (by decide) hfar0)
     have HBz:Hid (Below w.heap.size w (w107.setCell ⟨w101.heap.size,1,none⟩ (.int .i64 seq))):=hZq (HB.out.setCell hXF _)
     clear CB LB RB MB XF XL XB KQ0 HBr KF0 QN HB hfar0
     generalize w107.setCell ⟨w101.heap.size,1,none⟩ (.int .i64 seq)=w108 at CBz LBz RBz MBz XFz XLz XBz KQ0z HBrz KF0z QNz HBz ⊢
     have CB:=CBz
     have LB:=LBz
     have RB:=RBz
     have MB:=MBz
     have XF:=XFz
     have XL:=XLz
     have XB:=XBz
     have KQ0:=KQ0z
     have HBr:=HBrz
     have KF0:=KF0z
     have QN:=QNz
     have HB:=HBz
     clear CBz LBz RBz MBz XFz XLz XBz KQ0z HBrz KF0z QNz HBz
     have XFo:=blk10 XF.out
     have b109:=bl_newZ w108 (.cells #[.int .i64 1,.int .i64 seq,.bool xo,.string ⟨xc.toArray⟩,.int .i64 xa,.int .i64 xb,.int .i64 xd,.string ⟨xs.toArray⟩,.int .u64 0,.slice none 0 0] 49)
     have XA:=newQ w108 (.cells #[.int .i64 1,.int .i64 seq,.bool xo,.string ⟨xc.toArray⟩,.int .i64 xa,.int .i64 xb,.int .i64 xd,.string ⟨xs.toArray⟩,.int .u64 0,.slice none 0 0] 49)
     have hXA:w.heap.size≤w108.heap.size:=HB.out.size
     replace CB:=hZq (upQ CB.out b109)
     replace LB:=hZq (upQ LB.out b109)
     replace RB:=hZq (upQ RB.out b109)
     replace MB:=hZq (upQ MB.out b109)
     replace XF:=hZq (upQ XF.out b109)
     replace XL:=hZq (upQ XL.out b109)
     replace XB:=hZq (upQ XB.out b109)
     replace KQ0:=hZq (KQ.later KQ0.out b109)
     replace HBr:=hZq (below2Z HBr.out b109)
     replace KF0:=hZq (KF.later KF0.out b109)
     replace QN:=hZq (KQ.later QN.out b109)
     replace HB:=hZq (below2Z HB.out b109)
     clear b109
     replace XA:=hZq XA
     have SRC:=srcS_new (vals:=frVals) (w:=w108) (r:=(⟨⟨1,seq,xo,xc,⟨xa,xb,xd,xs⟩,0,[]⟩,none,0,0⟩ : FrS)) (cs:=#[.int .i64 1,.int .i64 seq,.bool xo,.string ⟨xc.toArray⟩,.int .i64 xa,.int .i64 xb,.int .i64 xd,.string ⟨xs.toArray⟩,.int .u64 0,.slice none 0 0]) rfl (e:=49) (B:=w108.heap.size) rfl _ rfl
     have KTP:KT w (w108.alloc (.cells #[.int .i64 1,.int .i64 seq,.bool xo,.string ⟨xc.toArray⟩,.int .i64 xa,.int .i64 xb,.int .i64 xd,.string ⟨xs.toArray⟩,.int .u64 0,.slice none 0 0] 49)) (⟨⟨1,seq,xo,xc,⟨xa,xb,xd,xs⟩,0,[]⟩,none,0,0⟩ : FrS):=.inl ⟨rfl,rfl⟩
     go_wp2_with (at_builtin; go_must (refine wpList_append_fr rfl (.tmp 60) (.tmp 62) rfl w.heap.size _ ps rfl (by exact KF0.out.1) ⟨w108.heap.size,0,none⟩ (⟨⟨1,seq,xo,xc,⟨xa,xb,xd,xs⟩,0,[]⟩,none,0,0⟩ : FrS) rfl SRC (by omega) HB.out.size ?_))
     intro fv w110 ho hbl hfar
     have CBz:=hZq (blk_app CB.out KF0.out.1 (by decide) hfar)
     have LBz:=hZq (blk_app LB.out KF0.out.1 (by decide) hfar)
     have RBz:=hZq (blk_app RB.out KF0.out.1 (by decide) hfar)
     have MBz:=hZq (blk_app MB.out KF0.out.1 (by decide) hfar)
     have XLz:=hZq (blk_app XL.out KF0.out.1 (by decide) hfar)
     have XBz:=hZq (blk_app XB.out KF0.out.1 (by decide) hfar)
     have KQ0z:=hZq (KQ0.out.app KF0.out.1 hfar)
     have KF0z:=hZq (KF0.out.more KTP ho hfar)
     have HBz:=hZq (HB.out.trans hbl)
     have QNz:=hZq (QN.out.app KF0.out.1 hfar)
     clear XFo CB LB RB MB XL XB KQ0 KF0 HB QN XF XA SRC KTP ho hbl hfar HBr KFr hxfr
     have CB:=CBz
     have LB:=LBz
     have RB:=RBz
     have MB:=MBz
     have XL:=XLz
     have XB:=XBz
     have KQ0:=KQ0z
     have KF0:=KF0z
     have HB:=HBz
     have QN:=QNz
     clear CBz LBz RBz MBz XLz XBz KQ0z KF0z HBz QNz
     obtain⟨fa2,fc2,rfl⟩:=kf_shape KF0.out
     clear KQ0
     have KQ0:=QN
     clear QN
     have XLo:=blk7 XL.out
     have LBo:=blk7 LB.out
     go_upto_region 13 with fail
     clear XLo LBo
     have hfar0:∀ k,¬ k=w.heap.size+1→(((((((w110.setCell ⟨w.heap.size+1,0,none⟩ (.int .i64 seq)).setCell ⟨w.heap.size+1,1,none⟩ (.slice a2 rn c2)).setCell ⟨w.heap.size+1,2,none⟩ (.bool la)).setCell ⟨w.heap.size+1,3,none⟩ (.int .i64 tok)).setCell ⟨w.heap.size+1,4,none⟩ (.int .i64 at')).setCell ⟨w.heap.size+1,5,none⟩ (.bool false)).setCell ⟨w.heap.size+1,6,none⟩ (.int .i64 dg)).heap[k]?=w110.heap[k]?:=fun k hk => by rw [Below.heap_setCell _ _ _ k hk,Below.heap_setCell _ _ _ k hk,Below.heap_setCell _ _ _ k hk,Below.heap_setCell _ _ _ k hk,Below.heap_setCell _ _ _ k hk,Below.heap_setCell _ _ _ k hk,Below.heap_setCell _ _ _ k hk]
     have CBz:=hZq ((hfar0 (w.heap.size) (blk_ne CB.out LB.out (by decide))).trans CB.out)
     have LBz:Hid ((((((((w110.setCell ⟨w.heap.size+1,0,none⟩ (.int .i64 seq)).setCell ⟨w.heap.size+1,1,none⟩ (.slice a2 rn c2)).setCell ⟨w.heap.size+1,2,none⟩ (.bool la)).setCell ⟨w.heap.size+1,3,none⟩ (.int .i64 tok)).setCell ⟨w.heap.size+1,4,none⟩ (.int .i64 at')).setCell ⟨w.heap.size+1,5,none⟩ (.bool false)).setCell ⟨w.heap.size+1,6,none⟩ (.int .i64 dg)).heap[w.heap.size+1]?=some (.cells #[.int .i64 seq,.slice a2 rn c2,.bool la,.int .i64 tok,.int .i64 at',.bool false,.int .i64 dg] 33 (0,0))):=hZq (heap_setCell_same _ (w.heap.size+1) 6 _ _ (.int .i64 dg) (heap_setCell_same _ (w.heap.size+1) 5 _ _ (.bool false) (heap_setCell_same _ (w.heap.size+1) 4 _ _ (.int .i64 at') (heap_setCell_same _ (w.heap.size+1) 3 _ _ (.int .i64 tok) (heap_setCell_same _ (w.heap.size+1) 2 _ _ (.bool la) (heap_setCell_same _ (w.heap.size+1) 1 _ _ (.slice a2 rn c2) (heap_setCell_same _ (w.heap.size+1) 0 _ _ (.int .i64 seq) LB.out)))))))
     have RBz:=hZq ((hfar0 (w.heap.size+1+1) (by omega)).trans RB.out)
     have MBz:=hZq ((hfar0 (mbn) (blk_ne MB.out LB.out (by decide))).trans MB.out)
     have XLz:=hZq ((hfar0 (w101.heap.size+1) (by omega)).trans XL.out)
     have XBz:=hZq ((hfar0 (w105.heap.size) (blk_ne XB.out LB.out (by decide))).trans XB.out)
     have KQ0z:=hZq (KQ0.out.past LB.out (by decide) hfar0)
     have KF0z:=hZq (KF0.out.past LB.out (by decide) (by decide) hfar0)
     have HBz:Hid (Below w.heap.size w (((((((w110.setCell ⟨w.heap.size+1,0,none⟩ (.int .i64 seq)).setCell ⟨w.heap.size+1,1,none⟩ (.slice a2 rn c2)).setCell ⟨w.heap.size+1,2,none⟩ (.bool la)).setCell ⟨w.heap.size+1,3,none⟩ (.int .i64 tok)).setCell ⟨w.heap.size+1,4,none⟩ (.int .i64 at')).setCell ⟨w.heap.size+1,5,none⟩ (.bool false)).setCell ⟨w.heap.size+1,6,none⟩ (.int .i64 dg))):=hZq (((((((HB.out.setCell hle1 _).setCell hle1 _).setCell hle1 _).setCell hle1 _).setCell hle1 _).setCell hle1 _).setCell hle1 _)
     clear CB LB RB MB XL XB KQ0 KF0 HB hfar0
     generalize ((((((w110.setCell ⟨w.heap.size+1,0,none⟩ (.int .i64 seq)).setCell ⟨w.heap.size+1,1,none⟩ (.slice a2 rn c2)).setCell ⟨w.heap.size+1,2,none⟩ (.bool la)).setCell ⟨w.heap.size+1,3,none⟩ (.int .i64 tok)).setCell ⟨w.heap.size+1,4,none⟩ (.int .i64 at')).setCell ⟨w.heap.size+1,5,none⟩ (.bool false)).setCell ⟨w.heap.size+1,6,none⟩ (.int .i64 dg)=w111 at CBz LBz RBz MBz XLz XBz KQ0z KF0z HBz ⊢
     have CB:=CBz
     have LB:=LBz
     have RB:=RBz
     have MB:=MBz
     have XL:=XLz
     have XB:=XBz
     have KQ0:=KQ0z
     have KF0:=KF0z
     have HB:=HBz
     clear CBz LBz RBz MBz XLz XBz KQ0z KF0z HBz
     clear XL
     have XBo:=blk2 XB.out
     have LBo:=blk7 LB.out
     go_upto_region 14 with fail
     clear XBo LBo
     have hfar0:∀ k,¬ k=w.heap.size+1→((w111.setCell ⟨w.heap.size+1,3,none⟩ (.int .i64 bx)).setCell ⟨w.heap.size+1,4,none⟩ (.int .i64 bt)).heap[k]?=w111.heap[k]?:=fun k hk => by rw [Below.heap_setCell _ _ _ k hk,Below.heap_setCell _ _ _ k hk]
     have CBz:=hZq ((hfar0 (w.heap.size) (blk_ne CB.out LB.out (by decide))).trans CB.out)
     have LBz:Hid (((w111.setCell ⟨w.heap.size+1,3,none⟩ (.int .i64 bx)).setCell ⟨w.heap.size+1,4,none⟩ (.int .i64 bt)).heap[w.heap.size+1]?=some (.cells #[.int .i64 seq,.slice a2 rn c2,.bool la,.int .i64 bx,.int .i64 bt,.bool false,.int .i64 dg] 33 (0,0))):=hZq (heap_setCell_same _ (w.heap.size+1) 4 _ _ (.int .i64 bt) (heap_setCell_same _ (w.heap.size+1) 3 _ _ (.int .i64 bx) LB.out))
     have RBz:=hZq ((hfar0 (w.heap.size+1+1) (by omega)).trans RB.out)
     have MBz:=hZq ((hfar0 (mbn) (blk_ne MB.out LB.out (by decide))).trans MB.out)
     have XBz:=hZq ((hfar0 (w105.heap.size) (blk_ne XB.out LB.out (by decide))).trans XB.out)
     have KQ0z:=hZq (KQ0.out.past LB.out (by decide) hfar0)
     have KF0z:=hZq (KF0.out.past LB.out (by decide) (by decide) hfar0)
     have HBz:Hid (Below w.heap.size w ((w111.setCell ⟨w.heap.size+1,3,none⟩ (.int .i64 bx)).setCell ⟨w.heap.size+1,4,none⟩ (.int .i64 bt))):=hZq ((HB.out.setCell hle1 _).setCell hle1 _)
     clear CB LB RB MB XB KQ0 KF0 HB hfar0
     generalize (w111.setCell ⟨w.heap.size+1,3,none⟩ (.int .i64 bx)).setCell ⟨w.heap.size+1,4,none⟩ (.int .i64 bt)=w112 at CBz LBz RBz MBz XBz KQ0z KF0z HBz ⊢
     have CB:=CBz
     have LB:=LBz
     have RB:=RBz
     have MB:=MBz
     have XB:=XBz
     have KQ0:=KQ0z
     have KF0:=KF0z
     have HB:=HBz
     clear CBz LBz RBz MBz XBz KQ0z KF0z HBz
     clear XB
     have LBo:=blk7 LB.out
     go_wp2_with fail
     clear LBo
     have hfar0:∀ k,¬ k=w.heap.size+1→(w112.setCell ⟨w.heap.size+1,0,none⟩ (.int .i64 (seq+1))).heap[k]?=w112.heap[k]?:=fun k hk => by rw [Below.heap_setCell _ _ _ k hk]
     have CBz:=hZq ((hfar0 (w.heap.size) (blk_ne CB.out LB.out (by decide))).trans CB.out)
     have LBz:=hZq (stS LB.out 0 (.int .i64 (seq+1)) [.int .i64 (seq+1),.slice a2 rn c2,.bool la,.int .i64 bx,.int .i64 bt,.bool false,.int .i64 dg] rfl)
     have RBz:=hZq ((hfar0 (w.heap.size+1+1) (by omega)).trans RB.out)
     have MBz:=hZq ((hfar0 (mbn) (blk_ne MB.out LB.out (by decide))).trans MB.out)
     have KQ0z:=hZq (KQ0.out.past LB.out (by decide) hfar0)
     have KF0z:=hZq (KF0.out.past LB.out (by decide) (by decide) hfar0)
     have HBz:Hid (Below w.heap.size w (w112.setCell ⟨w.heap.size+1,0,none⟩ (.int .i64 (seq+1)))):=hZq (HB.out.setCell hle1 _)
     clear CB LB RB MB KQ0 KF0 HB hfar0
     have CB:=CBz
     have LB:=LBz
     have RB:=RBz
     have MB:=MBz
     have KQ0:=KQ0z
     have KF0:=KF0z
     have HB:=HBz
     clear CBz LBz RBz MBz KQ0z KF0z HBz
     go_roundw
     case rel => exact⟨seq+1,bx,bt,dg,false,la,r,a2,rn,c2,ps ++ [(⟨⟨1,seq,xo,xc,⟨xa,xb,xd,xs⟩,0,[]⟩,none,0,0⟩ : FrS)],fa2,fc2,n - 1,rfl,hZq (by rw [List.map_append]; exact HE2.out),CB,LB,RB,MB,KQ0,KF0,HB⟩
     case measure => simp [slLen]; omega
   case nil =>
    by_cases hdue:now - dg < ce
    case neg =>
     have HDUE:Hid (ce≤now - dg):=hZq (Int.not_lt.1 hdue)
     have MBo:=blk6 MB.out
     have LBo:=blk7 LB.out
     go_wp2_with fail
     clear MBo LBo t1
     refine (lnext_g (KQ0.out.chgs HB.out) (HT.out _ HB.out) seq tok at' dg ca cb cd ce now la rfl hn0 hn1 hd0 hd1 (Int.not_lt.2 HDUE.out) HH.out hvl).mono ?_
     rintro e w101 ⟨rfl,b101⟩
     replace CB:=hZq (upQ CB.out b101)
     replace LB:=hZq (upQ LB.out b101)
     replace RB:=hZq (upQ RB.out b101)
     replace MB:=hZq (upQ MB.out b101)
     replace KQ0:=hZq (KQ.later KQ0.out b101)
     replace HBr:=hZq (below2Z HBr.out b101)
     replace KF0:=hZq (KF.later KF0.out b101)
     replace HB:=hZq (below2Z HB.out b101)
     clear b101
     have hlb:=(Array.getElem?_eq_some_iff.1 LB.out).1
     have hrb:=(Array.getElem?_eq_some_iff.1 RB.out).1
     have hmm:=(Array.getElem?_eq_some_iff.1 MB.out).1
     have hxfr:=HBr.out.size
     have b102:=bl_newZ w101 (.cells #[.int .i64 2,.int .i64 0,.bool false,.string ⟨#[]⟩,.int .i64 0,.int .i64 0,.int .i64 0,.string ⟨#[]⟩,.int .u64 (diSum view),.slice none 0 0] 49)
     have XF:=newQ w101 (.cells #[.int .i64 2,.int .i64 0,.bool false,.string ⟨#[]⟩,.int .i64 0,.int .i64 0,.int .i64 0,.string ⟨#[]⟩,.int .u64 (diSum view),.slice none 0 0] 49)
     have hXF:w.heap.size≤w101.heap.size:=HB.out.size
     replace CB:=hZq (upQ CB.out b102)
     replace LB:=hZq (upQ LB.out b102)
     replace RB:=hZq (upQ RB.out b102)
     replace MB:=hZq (upQ MB.out b102)
     replace KQ0:=hZq (KQ.later KQ0.out b102)
     replace HBr:=hZq (below2Z HBr.out b102)
     replace KF0:=hZq (KF.later KF0.out b102)
     replace HB:=hZq (below2Z HB.out b102)
     clear b102
     replace XF:=hZq XF
     have b103:=bl_newZ (w101.alloc (.cells #[.int .i64 2,.int .i64 0,.bool false,.string ⟨#[]⟩,.int .i64 0,.int .i64 0,.int .i64 0,.string ⟨#[]⟩,.int .u64 (diSum view),.slice none 0 0] 49)) (.cells #[.int .i64 seq,.slice qa qn qc,.bool la,.int .i64 tok,.int .i64 at',.bool false,.int .i64 now] 33)
     have XL:=newQ (w101.alloc (.cells #[.int .i64 2,.int .i64 0,.bool false,.string ⟨#[]⟩,.int .i64 0,.int .i64 0,.int .i64 0,.string ⟨#[]⟩,.int .u64 (diSum view),.slice none 0 0] 49)) (.cells #[.int .i64 seq,.slice qa qn qc,.bool la,.int .i64 tok,.int .i64 at',.bool false,.int .i64 now] 33)
     have hXL:w.heap.size≤(w101.alloc (.cells #[.int .i64 2,.int .i64 0,.bool false,.string ⟨#[]⟩,.int .i64 0,.int .i64 0,.int .i64 0,.string ⟨#[]⟩,.int .u64 (diSum view),.slice none 0 0] 49)).heap.size:=HB.out.size
     rw [World.size_alloc] at XL hXL
     replace CB:=hZq (upQ CB.out b103)
     replace LB:=hZq (upQ LB.out b103)
     replace RB:=hZq (upQ RB.out b103)
     replace MB:=hZq (upQ MB.out b103)
     replace XF:=hZq (upQ XF.out b103)
     replace KQ0:=hZq (KQ.later KQ0.out b103)
     replace HBr:=hZq (below2Z HBr.out b103)
     replace KF0:=hZq (KF.later KF0.out b103)
     replace HB:=hZq (below2Z HB.out b103)
     clear b103
     replace XL:=hZq XL
     go_upto_region 8 with fail
     generalize (w101.alloc (.cells #[.int .i64 2,.int .i64 0,.bool false,.string ⟨#[]⟩,.int .i64 0,.int .i64 0,.int .i64 0,.string ⟨#[]⟩,.int .u64 (diSum view),.slice none 0 0] 49)).alloc (.cells #[.int .i64 seq,.slice qa qn qc,.bool la,.int .i64 tok,.int .i64 at',.bool false,.int .i64 now] 33)=w104 at CB LB RB MB XF XL KQ0 HBr KF0 HB ⊢
     have CBo:=blk4 CB.out
     have LBo:=blk7 LB.out
     go_wp2_with fail
     clear CBo LBo
     refine (ptake_any ca cb cd ce tok at' now HP _).mono ?_
     rintro e w105 ⟨rfl,b105⟩
     replace CB:=hZq (upQ CB.out b105)
     replace LB:=hZq (upQ LB.out b105)
     replace RB:=hZq (upQ RB.out b105)
     replace MB:=hZq (upQ MB.out b105)
     replace XF:=hZq (upQ XF.out b105)
     replace XL:=hZq (upQ XL.out b105)
     replace KQ0:=hZq (KQ.later KQ0.out b105)
     replace HBr:=hZq (below2Z HBr.out b105)
     replace KF0:=hZq (KF.later KF0.out b105)
     replace HB:=hZq (below2Z HB.out b105)
     clear b105
     have hxl:=(Array.getElem?_eq_some_iff.1 XL.out).1
     cases is with
     | false =>
      have b156:=bl_newZ w105 (.cells #[.int .i64 bx,.int .i64 bt] 31)
      have XB:=newQ w105 (.cells #[.int .i64 bx,.int .i64 bt] 31)
      have hXB:w.heap.size≤w105.heap.size:=HB.out.size
      replace CB:=hZq (upQ CB.out b156)
      replace LB:=hZq (upQ LB.out b156)
      replace RB:=hZq (upQ RB.out b156)
      replace MB:=hZq (upQ MB.out b156)
      replace XF:=hZq (upQ XF.out b156)
      replace XL:=hZq (upQ XL.out b156)
      replace KQ0:=hZq (KQ.later KQ0.out b156)
      replace HBr:=hZq (below2Z HBr.out b156)
      replace KF0:=hZq (KF.later KF0.out b156)
      replace HB:=hZq (below2Z HB.out b156)
      clear b156
      replace XB:=hZq XB
      go_upto_region 15 with fail
      generalize w105.alloc (.cells #[.int .i64 bx,.int .i64 bt] 31)=w157 at CB LB RB MB XF XL XB KQ0 HBr KF0 HB ⊢
      have hend:=emp_end HE.out (stp_tok HP.out)
      rw [HR.out] at hend
      simp only [Prod.mk.injEq] at hend
      obtain⟨rfl,rfl⟩:=hend
      clear HE HR
      have LBo:=blk7 LB.out
      have RBo:=blk7 RB.out
      go_wp2_with fail
      have hz:=stN7_heap RB.out (.int .i64 seq) (.slice qa qn qc) (.bool la) (.int .i64 tok) (.int .i64 at') (.bool false) (.int .i64 dg)
      have KQz:=KQ0.out.past RB.out (by decide) (fun k hk => stN7_far w157 (w.heap.size+1+1) (.int .i64 seq) (.slice qa qn qc) (.bool la) (.int .i64 tok) (.int .i64 at') (.bool false) (.int .i64 dg) hk)
      have KFz:=KF0.out.past RB.out (by decide) (by decide) (fun k hk => stN7_far w157 (w.heap.size+1+1) (.int .i64 seq) (.slice qa qn qc) (.bool la) (.int .i64 tok) (.int .i64 at') (.bool false) (.int .i64 dg) hk)
      have HBz:=stN7_below HB.out hle2 (.int .i64 seq) (.slice qa qn qc) (.bool la) (.int .i64 tok) (.int .i64 at') (.bool false) (.int .i64 dg)
      obtain⟨⟨z0,z1,z2,z3,z4,z5,z6⟩,-⟩:=blk7 hz
      unfold stN7 at z0 z1 z2 z3 z4 z5 z6
      refine bodyPost_ret (v:=.tuple #[.agg #[.int .i64 seq,.slice qa qn qc,.bool la,.int .i64 tok,.int .i64 at',.bool false,.int .i64 dg],.slice fa ps.length fc]) (by simp [results,Try.results9,go_sem,z0,z1,z2,z3,z4,z5,z6]) rfl ⟨_,_,ps,rfl,KQz.chgs HBz,KFz,rfl,HBz⟩
     | true =>
      obtain⟨he2,hpl⟩:=emp_step HE.out h2.out h3.out (stp_g hsq (Int.not_lt.2 HDUE.out) HP.out)
      rw [List.length_map] at hpl
      have HE2:=hZq he2
      clear he2 HE HP
      have b106:=bl_newZ w105 (.cells #[.int .i64 bx,.int .i64 bt] 31)
      have XB:=newQ w105 (.cells #[.int .i64 bx,.int .i64 bt] 31)
      have hXB:w.heap.size≤w105.heap.size:=HB.out.size
      replace CB:=hZq (upQ CB.out b106)
      replace LB:=hZq (upQ LB.out b106)
      replace RB:=hZq (upQ RB.out b106)
      replace MB:=hZq (upQ MB.out b106)
      replace XF:=hZq (upQ XF.out b106)
      replace XL:=hZq (upQ XL.out b106)
      replace KQ0:=hZq (KQ.later KQ0.out b106)
      replace HBr:=hZq (below2Z HBr.out b106)
      replace KF0:=hZq (KF.later KF0.out b106)
      replace HB:=hZq (below2Z HB.out b106)
      clear b106
      replace XB:=hZq XB
      go_upto_region 10 with fail
      generalize w105.alloc (.cells #[.int .i64 bx,.int .i64 bt] 31)=w107 at CB LB RB MB XF XL XB KQ0 HBr KF0 HB ⊢
      have LBo:=blk7 LB.out
      have XFo:=blk10 XF.out
      go_upto_region 11 with fail
      clear LBo XFo
      have hfar0:∀ k,¬ k=w101.heap.size→(w107.setCell ⟨w101.heap.size,1,none⟩ (.int .i64 seq)).heap[k]?=w107.heap[k]?:=fun k hk => by rw [Below.heap_setCell _ _ _ k hk]
      have CBz:=hZq ((hfar0 (w.heap.size) (blk_ne CB.out XF.out (by decide))).trans CB.out)
      have LBz:=hZq ((hfar0 (w.heap.size+1) (blk_ne LB.out XF.out (by decide))).trans LB.out)
      have RBz:=hZq ((hfar0 (w.heap.size+1+1) (blk_ne RB.out XF.out (by decide))).trans RB.out)
      have MBz:=hZq ((hfar0 (mbn) (blk_ne MB.out XF.out (by decide))).trans MB.out)
      have XFz:=hZq (stS XF.out 1 (.int .i64 seq) [.int .i64 2,.int .i64 seq,.bool false,.string ⟨#[]⟩,.int .i64 0,.int .i64 0,.int .i64 0,.string ⟨#[]⟩,.int .u64 (diSum view),.slice none 0 0] rfl)
      have XLz:=hZq ((hfar0 (w101.heap.size+1) (blk_ne XL.out XF.out (by decide))).trans XL.out)
      have XBz:=hZq ((hfar0 (w105.heap.size) (blk_ne XB.out XF.out (by decide))).trans XB.out)
      have KQ0z:=hZq (KQ0.out.past XF.out (by decide) hfar0)
      have HBrz:Hid (Below wr.heap.size wr (w107.setCell ⟨w101.heap.size,1,none⟩ (.int .i64 seq))):=hZq (HBr.out.setCell hxfr _)
      have KF0z:=hZq (KFr.out.later HBrz.out)
      have HBz:Hid (Below w.heap.size w (w107.setCell ⟨w101.heap.size,1,none⟩ (.int .i64 seq))):=hZq (HB.out.setCell hXF _)
      clear CB LB RB MB XF XL XB KQ0 HBr KF0 HB hfar0
      generalize w107.setCell ⟨w101.heap.size,1,none⟩ (.int .i64 seq)=w108 at CBz LBz RBz MBz XFz XLz XBz KQ0z HBrz KF0z HBz ⊢
      have CB:=CBz
      have LB:=LBz
      have RB:=RBz
      have MB:=MBz
      have XF:=XFz
      have XL:=XLz
      have XB:=XBz
      have KQ0:=KQ0z
      have HBr:=HBrz
      have KF0:=KF0z
      have HB:=HBz
      clear CBz LBz RBz MBz XFz XLz XBz KQ0z HBrz KF0z HBz
      have XFo:=blk10 XF.out
      have b109:=bl_newZ w108 (.cells #[.int .i64 2,.int .i64 seq,.bool false,.string ⟨#[]⟩,.int .i64 0,.int .i64 0,.int .i64 0,.string ⟨#[]⟩,.int .u64 (diSum view),.slice none 0 0] 49)
      have XA:=newQ w108 (.cells #[.int .i64 2,.int .i64 seq,.bool false,.string ⟨#[]⟩,.int .i64 0,.int .i64 0,.int .i64 0,.string ⟨#[]⟩,.int .u64 (diSum view),.slice none 0 0] 49)
      have hXA:w.heap.size≤w108.heap.size:=HB.out.size
      replace CB:=hZq (upQ CB.out b109)
      replace LB:=hZq (upQ LB.out b109)
      replace RB:=hZq (upQ RB.out b109)
      replace MB:=hZq (upQ MB.out b109)
      replace XF:=hZq (upQ XF.out b109)
      replace XL:=hZq (upQ XL.out b109)
      replace XB:=hZq (upQ XB.out b109)
      replace KQ0:=hZq (KQ.later KQ0.out b109)
      replace HBr:=hZq (below2Z HBr.out b109)
      replace KF0:=hZq (KF.later KF0.out b109)
      replace HB:=hZq (below2Z HB.out b109)
      clear b109
      replace XA:=hZq XA
      have SRC:=srcS_new (vals:=frVals) (w:=w108) (r:=(⟨⟨2,seq,false,[],Val.zero,diSum view,[]⟩,none,0,0⟩ : FrS)) (cs:=#[.int .i64 2,.int .i64 seq,.bool false,.string ⟨#[]⟩,.int .i64 0,.int .i64 0,.int .i64 0,.string ⟨#[]⟩,.int .u64 (diSum view),.slice none 0 0]) rfl (e:=49) (B:=w108.heap.size) rfl _ rfl
      have KTP:KT w (w108.alloc (.cells #[.int .i64 2,.int .i64 seq,.bool false,.string ⟨#[]⟩,.int .i64 0,.int .i64 0,.int .i64 0,.string ⟨#[]⟩,.int .u64 (diSum view),.slice none 0 0] 49)) (⟨⟨2,seq,false,[],Val.zero,diSum view,[]⟩,none,0,0⟩ : FrS):=.inl ⟨rfl,rfl⟩
      go_wp2_with (at_builtin; go_must (refine wpList_append_fr rfl (.tmp 60) (.tmp 62) rfl w.heap.size _ ps rfl (by exact KF0.out.1) ⟨w108.heap.size,0,none⟩ (⟨⟨2,seq,false,[],Val.zero,diSum view,[]⟩,none,0,0⟩ : FrS) rfl SRC (by omega) HB.out.size ?_))
      intro fv w110 ho hbl hfar
      have CBz:=hZq (blk_app CB.out KF0.out.1 (by decide) hfar)
      have LBz:=hZq (blk_app LB.out KF0.out.1 (by decide) hfar)
      have RBz:=hZq (blk_app RB.out KF0.out.1 (by decide) hfar)
      have MBz:=hZq (blk_app MB.out KF0.out.1 (by decide) hfar)
      have XLz:=hZq (blk_app XL.out KF0.out.1 (by decide) hfar)
      have XBz:=hZq (blk_app XB.out KF0.out.1 (by decide) hfar)
      have KQ0z:=hZq (KQ0.out.app KF0.out.1 hfar)
      have KF0z:=hZq (KF0.out.more KTP ho hfar)
      have HBz:=hZq (HB.out.trans hbl)
      clear XFo CB LB RB MB XL XB KQ0 KF0 HB XF XA SRC KTP ho hbl hfar HBr KFr hxfr
      have CB:=CBz
      have LB:=LBz
      have RB:=RBz
      have MB:=MBz
      have XL:=XLz
      have XB:=XBz
      have KQ0:=KQ0z
      have KF0:=KF0z
      have HB:=HBz
      clear CBz LBz RBz MBz XLz XBz KQ0z KF0z HBz
      obtain⟨fa2,fc2,rfl⟩:=kf_shape KF0.out
      have XLo:=blk7 XL.out
      have LBo:=blk7 LB.out
      go_upto_region 13 with fail
      clear XLo LBo
      have hfar0:∀ k,¬ k=w.heap.size+1→(((((((w110.setCell ⟨w.heap.size+1,0,none⟩ (.int .i64 seq)).setCell ⟨w.heap.size+1,1,none⟩ (.slice qa qn qc)).setCell ⟨w.heap.size+1,2,none⟩ (.bool la)).setCell ⟨w.heap.size+1,3,none⟩ (.int .i64 tok)).setCell ⟨w.heap.size+1,4,none⟩ (.int .i64 at')).setCell ⟨w.heap.size+1,5,none⟩ (.bool false)).setCell ⟨w.heap.size+1,6,none⟩ (.int .i64 now)).heap[k]?=w110.heap[k]?:=fun k hk => by rw [Below.heap_setCell _ _ _ k hk,Below.heap_setCell _ _ _ k hk,Below.heap_setCell _ _ _ k hk,Below.heap_setCell _ _ _ k hk,Below.heap_setCell _ _ _ k hk,Below.heap_setCell _ _ _ k hk,Below.heap_setCell _ _ _ k hk]
      have CBz:=hZq ((hfar0 (w.heap.size) (blk_ne CB.out LB.out (by decide))).trans CB.out)
      have LBz:Hid ((((((((w110.setCell ⟨w.heap.size+1,0,none⟩ (.int .i64 seq)).setCell ⟨w.heap.size+1,1,none⟩ (.slice qa qn qc)).setCell ⟨w.heap.size+1,2,none⟩ (.bool la)).setCell ⟨w.heap.size+1,3,none⟩ (.int .i64 tok)).setCell ⟨w.heap.size+1,4,none⟩ (.int .i64 at')).setCell ⟨w.heap.size+1,5,none⟩ (.bool false)).setCell ⟨w.heap.size+1,6,none⟩ (.int .i64 now)).heap[w.heap.size+1]?=some (.cells #[.int .i64 seq,.slice qa qn qc,.bool la,.int .i64 tok,.int .i64 at',.bool false,.int .i64 now] 33 (0,0))):=hZq (heap_setCell_same _ (w.heap.size+1) 6 _ _ (.int .i64 now) (heap_setCell_same _ (w.heap.size+1) 5 _ _ (.bool false) (heap_setCell_same _ (w.heap.size+1) 4 _ _ (.int .i64 at') (heap_setCell_same _ (w.heap.size+1) 3 _ _ (.int .i64 tok) (heap_setCell_same _ (w.heap.size+1) 2 _ _ (.bool la) (heap_setCell_same _ (w.heap.size+1) 1 _ _ (.slice qa qn qc) (heap_setCell_same _ (w.heap.size+1) 0 _ _ (.int .i64 seq) LB.out)))))))
      have RBz:=hZq ((hfar0 (w.heap.size+1+1) (by omega)).trans RB.out)
      have MBz:=hZq ((hfar0 (mbn) (blk_ne MB.out LB.out (by decide))).trans MB.out)
      have XLz:=hZq ((hfar0 (w101.heap.size+1) (by omega)).trans XL.out)
      have XBz:=hZq ((hfar0 (w105.heap.size) (blk_ne XB.out LB.out (by decide))).trans XB.out)
      have KQ0z:=hZq (KQ0.out.past LB.out (by decide) hfar0)
      have KF0z:=hZq (KF0.out.past LB.out (by decide) (by decide) hfar0)
      have HBz:Hid (Below w.heap.size w (((((((w110.setCell ⟨w.heap.size+1,0,none⟩ (.int .i64 seq)).setCell ⟨w.heap.size+1,1,none⟩ (.slice qa qn qc)).setCell ⟨w.heap.size+1,2,none⟩ (.bool la)).setCell ⟨w.heap.size+1,3,none⟩ (.int .i64 tok)).setCell ⟨w.heap.size+1,4,none⟩ (.int .i64 at')).setCell ⟨w.heap.size+1,5,none⟩ (.bool false)).setCell ⟨w.heap.size+1,6,none⟩ (.int .i64 now))):=hZq (((((((HB.out.setCell hle1 _).setCell hle1 _).setCell hle1 _).setCell hle1 _).setCell hle1 _).setCell hle1 _).setCell hle1 _)
      clear CB LB RB MB XL XB KQ0 KF0 HB hfar0
      generalize ((((((w110.setCell ⟨w.heap.size+1,0,none⟩ (.int .i64 seq)).setCell ⟨w.heap.size+1,1,none⟩ (.slice qa qn qc)).setCell ⟨w.heap.size+1,2,none⟩ (.bool la)).setCell ⟨w.heap.size+1,3,none⟩ (.int .i64 tok)).setCell ⟨w.heap.size+1,4,none⟩ (.int .i64 at')).setCell ⟨w.heap.size+1,5,none⟩ (.bool false)).setCell ⟨w.heap.size+1,6,none⟩ (.int .i64 now)=w111 at CBz LBz RBz MBz XLz XBz KQ0z KF0z HBz ⊢
      have CB:=CBz
      have LB:=LBz
      have RB:=RBz
      have MB:=MBz
      have XL:=XLz
      have XB:=XBz
      have KQ0:=KQ0z
      have KF0:=KF0z
      have HB:=HBz
      clear CBz LBz RBz MBz XLz XBz KQ0z KF0z HBz
      clear XL
      have XBo:=blk2 XB.out
      have LBo:=blk7 LB.out
      go_upto_region 14 with fail
      clear XBo LBo
      have hfar0:∀ k,¬ k=w.heap.size+1→((w111.setCell ⟨w.heap.size+1,3,none⟩ (.int .i64 bx)).setCell ⟨w.heap.size+1,4,none⟩ (.int .i64 bt)).heap[k]?=w111.heap[k]?:=fun k hk => by rw [Below.heap_setCell _ _ _ k hk,Below.heap_setCell _ _ _ k hk]
      have CBz:=hZq ((hfar0 (w.heap.size) (blk_ne CB.out LB.out (by decide))).trans CB.out)
      have LBz:Hid (((w111.setCell ⟨w.heap.size+1,3,none⟩ (.int .i64 bx)).setCell ⟨w.heap.size+1,4,none⟩ (.int .i64 bt)).heap[w.heap.size+1]?=some (.cells #[.int .i64 seq,.slice qa qn qc,.bool la,.int .i64 bx,.int .i64 bt,.bool false,.int .i64 now] 33 (0,0))):=hZq (heap_setCell_same _ (w.heap.size+1) 4 _ _ (.int .i64 bt) (heap_setCell_same _ (w.heap.size+1) 3 _ _ (.int .i64 bx) LB.out))
      have RBz:=hZq ((hfar0 (w.heap.size+1+1) (by omega)).trans RB.out)
      have MBz:=hZq ((hfar0 (mbn) (blk_ne MB.out LB.out (by decide))).trans MB.out)
      have XBz:=hZq ((hfar0 (w105.heap.size) (blk_ne XB.out LB.out (by decide))).trans XB.out)
      have KQ0z:=hZq (KQ0.out.past LB.out (by decide) hfar0)
      have KF0z:=hZq (KF0.out.past LB.out (by decide) (by decide) hfar0)
      have HBz:Hid (Below w.heap.size w ((w111.setCell ⟨w.heap.size+1,3,none⟩ (.int .i64 bx)).setCell ⟨w.heap.size+1,4,none⟩ (.int .i64 bt))):=hZq ((HB.out.setCell hle1 _).setCell hle1 _)
      clear CB LB RB MB XB KQ0 KF0 HB hfar0
      generalize (w111.setCell ⟨w.heap.size+1,3,none⟩ (.int .i64 bx)).setCell ⟨w.heap.size+1,4,none⟩ (.int .i64 bt)=w112 at CBz LBz RBz MBz XBz KQ0z KF0z HBz ⊢
      have CB:=CBz
      have LB:=LBz
      have RB:=RBz
      have MB:=MBz
      have XB:=XBz
      have KQ0:=KQ0z
      have KF0:=KF0z
      have HB:=HBz
      clear CBz LBz RBz MBz XBz KQ0z KF0z HBz
      clear XB
      have LBo:=blk7 LB.out
      go_wp2_with fail
      clear LBo
      have hfar0:∀ k,¬ k=w.heap.size+1→(w112.setCell ⟨w.heap.size+1,0,none⟩ (.int .i64 (seq+1))).heap[k]?=w112.heap[k]?:=fun k hk => by rw [Below.heap_setCell _ _ _ k hk]
      have CBz:=hZq ((hfar0 (w.heap.size) (blk_ne CB.out LB.out (by decide))).trans CB.out)
      have LBz:=hZq (stS LB.out 0 (.int .i64 (seq+1)) [.int .i64 (seq+1),.slice qa qn qc,.bool la,.int .i64 bx,.int .i64 bt,.bool false,.int .i64 now] rfl)
      have RBz:=hZq ((hfar0 (w.heap.size+1+1) (by omega)).trans RB.out)
      have MBz:=hZq ((hfar0 (mbn) (blk_ne MB.out LB.out (by decide))).trans MB.out)
      have KQ0z:=hZq (KQ0.out.past LB.out (by decide) hfar0)
      have KF0z:=hZq (KF0.out.past LB.out (by decide) (by decide) hfar0)
      have HBz:Hid (Below w.heap.size w (w112.setCell ⟨w.heap.size+1,0,none⟩ (.int .i64 (seq+1)))):=hZq (HB.out.setCell hle1 _)
      clear CB LB RB MB KQ0 KF0 HB hfar0
      have CB:=CBz
      have LB:=LBz
      have RB:=RBz
      have MB:=MBz
      have KQ0:=KQ0z
      have KF0:=KF0z
      have HB:=HBz
      clear CBz LBz RBz MBz KQ0z KF0z HBz
      go_roundw
      case rel => exact⟨seq+1,bx,bt,now,false,la,[],qa,qn,qc,ps ++ [(⟨⟨2,seq,false,[],Val.zero,diSum view,[]⟩,none,0,0⟩ : FrS)],fa2,fc2,n - 1,rfl,hZq (by rw [List.map_append]; exact HE2.out),CB,LB,RB,MB,KQ0,KF0,HB⟩
      case measure => simp [slLen]; omega
    case pos =>
     have HDUE:=hZq hdue
     have MBo:=blk6 MB.out
     have LBo:=blk7 LB.out
     go_wp2_with fail
     clear MBo LBo t1
     refine (lnext_n (KQ0.out.chgs HB.out) (HT.out _ HB.out) seq tok at' dg ca cb cd ce now la rfl hn0 hn1 hd0 hd1 HDUE.out).mono ?_
     rintro e w101 ⟨rfl,b101⟩
     replace CB:=hZq (upQ CB.out b101)
     replace LB:=hZq (upQ LB.out b101)
     replace RB:=hZq (upQ RB.out b101)
     replace MB:=hZq (upQ MB.out b101)
     replace KQ0:=hZq (KQ.later KQ0.out b101)
     replace HBr:=hZq (below2Z HBr.out b101)
     replace KF0:=hZq (KF.later KF0.out b101)
     replace HB:=hZq (below2Z HB.out b101)
     clear b101
     have hxfr:=HBr.out.size
     have b102:=bl_newZ w101 (.cells #[.int .i64 0,.int .i64 0,.bool false,.string ⟨#[]⟩,.int .i64 0,.int .i64 0,.int .i64 0,.string ⟨#[]⟩,.int .u64 0,.slice none 0 0] 49)
     have XF:=newQ w101 (.cells #[.int .i64 0,.int .i64 0,.bool false,.string ⟨#[]⟩,.int .i64 0,.int .i64 0,.int .i64 0,.string ⟨#[]⟩,.int .u64 0,.slice none 0 0] 49)
     have hXF:w.heap.size≤w101.heap.size:=HB.out.size
     replace CB:=hZq (upQ CB.out b102)
     replace LB:=hZq (upQ LB.out b102)
     replace RB:=hZq (upQ RB.out b102)
     replace MB:=hZq (upQ MB.out b102)
     replace KQ0:=hZq (KQ.later KQ0.out b102)
     replace HBr:=hZq (below2Z HBr.out b102)
     replace KF0:=hZq (KF.later KF0.out b102)
     replace HB:=hZq (below2Z HB.out b102)
     clear b102
     replace XF:=hZq XF
     have b103:=bl_newZ (w101.alloc (.cells #[.int .i64 0,.int .i64 0,.bool false,.string ⟨#[]⟩,.int .i64 0,.int .i64 0,.int .i64 0,.string ⟨#[]⟩,.int .u64 0,.slice none 0 0] 49)) (.cells #[.int .i64 seq,.slice qa qn qc,.bool la,.int .i64 tok,.int .i64 at',.bool false,.int .i64 dg] 33)
     have XL:=newQ (w101.alloc (.cells #[.int .i64 0,.int .i64 0,.bool false,.string ⟨#[]⟩,.int .i64 0,.int .i64 0,.int .i64 0,.string ⟨#[]⟩,.int .u64 0,.slice none 0 0] 49)) (.cells #[.int .i64 seq,.slice qa qn qc,.bool la,.int .i64 tok,.int .i64 at',.bool false,.int .i64 dg] 33)
     have hXL:w.heap.size≤(w101.alloc (.cells #[.int .i64 0,.int .i64 0,.bool false,.string ⟨#[]⟩,.int .i64 0,.int .i64 0,.int .i64 0,.string ⟨#[]⟩,.int .u64 0,.slice none 0 0] 49)).heap.size:=HB.out.size
     rw [World.size_alloc] at XL hXL
     replace CB:=hZq (upQ CB.out b103)
     replace LB:=hZq (upQ LB.out b103)
     replace RB:=hZq (upQ RB.out b103)
     replace MB:=hZq (upQ MB.out b103)
     replace XF:=hZq (upQ XF.out b103)
     replace KQ0:=hZq (KQ.later KQ0.out b103)
     replace HBr:=hZq (below2Z HBr.out b103)
     replace KF0:=hZq (KF.later KF0.out b103)
     replace HB:=hZq (below2Z HB.out b103)
     clear b103
     replace XL:=hZq XL
     go_upto_region 15 with fail
     generalize (w101.alloc (.cells #[.int .i64 0,.int .i64 0,.bool false,.string ⟨#[]⟩,.int .i64 0,.int .i64 0,.int .i64 0,.string ⟨#[]⟩,.int .u64 0,.slice none 0 0] 49)).alloc (.cells #[.int .i64 seq,.slice qa qn qc,.bool la,.int .i64 tok,.int .i64 at',.bool false,.int .i64 dg] 33)=w104 at CB LB RB MB XF XL KQ0 HBr KF0 HB ⊢
     have hend:=emp_end HE.out (stp_n HDUE.out)
     rw [HR.out] at hend
     simp only [Prod.mk.injEq] at hend
     obtain⟨rfl,rfl⟩:=hend
     clear HE HR
     have LBo:=blk7 LB.out
     have RBo:=blk7 RB.out
     go_wp2_with fail
     have hz:=stN7_heap RB.out (.int .i64 seq) (.slice qa qn qc) (.bool la) (.int .i64 tok) (.int .i64 at') (.bool false) (.int .i64 dg)
     have KQz:=KQ0.out.past RB.out (by decide) (fun k hk => stN7_far w104 (w.heap.size+1+1) (.int .i64 seq) (.slice qa qn qc) (.bool la) (.int .i64 tok) (.int .i64 at') (.bool false) (.int .i64 dg) hk)
     have KFz:=KF0.out.past RB.out (by decide) (by decide) (fun k hk => stN7_far w104 (w.heap.size+1+1) (.int .i64 seq) (.slice qa qn qc) (.bool la) (.int .i64 tok) (.int .i64 at') (.bool false) (.int .i64 dg) hk)
     have HBz:=stN7_below HB.out hle2 (.int .i64 seq) (.slice qa qn qc) (.bool la) (.int .i64 tok) (.int .i64 at') (.bool false) (.int .i64 dg)
     obtain⟨⟨z0,z1,z2,z3,z4,z5,z6⟩,-⟩:=blk7 hz
     unfold stN7 at z0 z1 z2 z3 z4 z5 z6
     refine bodyPost_ret (v:=.tuple #[.agg #[.int .i64 seq,.slice qa qn qc,.bool la,.int .i64 tok,.int .i64 at',.bool false,.int .i64 dg],.slice fa ps.length fc]) (by simp [results,Try.results9,go_sem,z0,z1,z2,z3,z4,z5,z6]) rfl ⟨_,_,ps,rfl,KQz.chgs HBz,KFz,rfl,HBz⟩

theorem lemit_any {w:World} {v vt:Value} {ql:List Chg} {view:List Row} (hv:Chgs w v ql) (ht:Tab w vt view) (hs:ShortC ql) (hl:ql.length≤100) (hsh:Short view) (ca cb cd ce seq tok at' dg now:Int) (la sn:Bool) {M:Lnk} {fs:List Frm} (hr:Hid (lnEmit ⟨ca,cb,cd,ce⟩ ⟨seq,⟨ql,la⟩,⟨tok,at'⟩,sn,dg⟩ view now=(M,fs))) :
  Calls Try.prog 9 #[.agg #[.int .i64 ca,.int .i64 cb,.int .i64 cd,.int .i64 ce],.agg #[.int .i64 seq,v,.bool la,.int .i64 tok,.int .i64 at',.bool sn,.int .i64 dg],vt,.int .i64 now] w (Emitted w M fs):=by
 have hr':=hr.out
 unfold lnEmit at hr'
 cases h1:lnMay ⟨ca,cb,cd,ce⟩ ⟨seq,⟨ql,la⟩,⟨tok,at'⟩,sn,dg⟩ with
 | false =>
  rw [h1] at hr'
  simp only [Bool.false_and,Bool.false_eq_true,if_false,Prod.mk.injEq] at hr'
  obtain⟨rfl,rfl⟩:=hr'
  exact lemit_r1 hv ht hs hl hsh ca cb cd ce seq tok at' dg now la sn (hZq h1)
 | true =>
  cases h2:diMay view with
  | false =>
   rw [h1,h2] at hr'
   simp only [Bool.false_and,Bool.and_false,Bool.false_eq_true,if_false,Prod.mk.injEq] at hr'
   obtain⟨rfl,rfl⟩:=hr'
   exact lemit_r2 hv ht hs hl hsh ca cb cd ce seq tok at' dg now la sn (hZq h1) (hZq h2)
  | true =>
   cases h3:pcTime now with
   | false =>
    rw [h1,h2,h3] at hr'
    simp only [Bool.and_false,Bool.false_eq_true,if_false,Prod.mk.injEq] at hr'
    obtain⟨rfl,rfl⟩:=hr'
    exact lemit_r3 hv ht hs hl hsh ca cb cd ce seq tok at' dg now la sn (hZq h1) (hZq h2) (hZq h3)
   | true =>
    rw [h1,h2,h3] at hr'
    simp only [Bool.and_true,if_true] at hr'
    exact lemit_in hv ht hs hl hsh ca cb cd ce seq tok at' dg now la sn (hZq h1) (hZq h2) (hZq h3) (hZq hr')
end Go.Proofs.Ytfocooajnignbaa
