/-
 TEXTS OF THE PROOF, one behind the other: LnkP, LnkToldP, LnkPushP, LnkPushW.
-/
import Derived.Test.YtfocooajnignbaaW13
import Derived.Test.YtfocooajnignbaaW07
import Derived.Test.YtfocooajnignbaaW12
import Derived.Test.YtfocooajnignbaaW05

namespace Go.Proofs.Ytfocooajnignbaa
section
open Go.RowKit

theorem emit_run {c:Cfg} {l:Lnk} {view:List Row} {now:Int} (h1:lnMay c l=true) (h2:diMay view=true) (h3:pcTime now=true):lnEmit c l view now=lnRun c view now 65 l:=by
 unfold lnEmit
 rw [if_pos (by rw [h1,h2,h3]; rfl)]
end
section
open Go.RowKit

theorem frMay_ways {f:Frm} (h:frMay f=true) (hk:f.k≤3) :
  (f.k=1∧f.sum=0∧f.t=[]∧idIs f.c=true∧(if f.on=true then vaMay f.v else vSame f.v Val.zero)=true)∨(f.k=2∧f.on=false∧f.c=[]∧f.v=Val.zero∧f.t=[])∨(f.k=3∧f.on=false∧f.c=[]∧f.v=Val.zero∧f.sum=0∧diMay f.t=true):=by
 unfold frMay at h
 simp only [Bool.and_eq_true,decide_eq_true_eq] at h
 obtain⟨⟨k1,_⟩,_,hr⟩:=h
 unfold frRest at hr
 by_cases e1:f.k=1
 ·rw [if_pos e1] at hr
  simp only [Bool.and_eq_true,decide_eq_true_eq] at hr
  exact .inl ⟨e1,hr.1,List.length_eq_zero_iff.1 hr.2.1,hr.2.2.1,hr.2.2.2⟩
 ·rw [if_neg e1] at hr
  by_cases e2:f.k=2
  ·rw [if_pos e2] at hr
   simp only [Bool.and_eq_true,decide_eq_true_eq,Bool.not_eq_true',beq_iff_eq] at hr
   exact .inr (.inl ⟨e2,hr.1.1,hr.1.2.1,vSame_iff.1 hr.1.2.2,List.length_eq_zero_iff.1 hr.2⟩)
  ·rw [if_neg e2] at hr
   have e3:f.k=3:=by omega
   rw [if_pos e3] at hr
   simp only [Bool.and_eq_true,decide_eq_true_eq,Bool.not_eq_true',beq_iff_eq] at hr
   exact .inr (.inr ⟨e3,hr.1.1,hr.1.2.1,vSame_iff.1 hr.1.2.2,hr.2.1,hr.2.2⟩)
end
section
open Go.RowKit

def dels (fs:List Frm):List Chg:=fs.filterMap fun f => if f.k=1 then some ⟨f.c,f.on,f.v⟩ else none

theorem dels_one (f:Frm) (fs:List Frm) (h:f.k=1):dels (f :: fs)=⟨f.c,f.on,f.v⟩ :: dels fs:=by unfold dels; rw [List.filterMap_cons_some (by rw [if_pos h])]
theorem dels_not (f:Frm) (fs:List Frm) (h:¬ f.k=1):dels (f :: fs)=dels fs:=by unfold dels; rw [List.filterMap_cons_none (by rw [if_neg h])]

theorem run_queue {c:Cfg} {view:List Row} {now:Int}:∀ (n:Nat) (l:Lnk),l.sn=false→l.q.l=dels (lnRun c view now n l).2 ++ (lnRun c view now n l).1.q.l
 | 0,l,_ => by simp [lnRun,dels]
 | n+1,l,h => by
  cases hs:lnStep c view now l with
  | none => rw [run_none hs]; simp [dels]
  | some p =>
   obtain⟨f,m⟩:=p
   rw [run_some hs]
   obtain⟨f0,m0,hT,rfl,rfl,_,_⟩:=step_ways hs
   rcases tell_ways hT with ⟨e,_⟩ | ⟨e,x,r,hq,rfl,rfl⟩ | ⟨e,hq,_,rfl,rfl⟩
   ·rw [h] at e; cases e
   ·rw [dels_one _ _ rfl,hq]
    have:=run_queue (c:=c) (view:=view) (now:=now) n ({ l with q:=⟨r,l.q.la⟩,b:=(pcTake c l.b now).1,seq:=l.seq+1 }:Lnk) e
    exact congrArg (x :: ·) this
   ·rw [dels_not _ _ (by show ¬ (2:Int)=1; decide)]
    exact run_queue (c:=c) (view:=view) (now:=now) n ({ l with dg:=now,b:=(pcTake c l.b now).1,seq:=l.seq+1 }:Lnk) e

theorem run_snap {c:Cfg} {view:List Row} {now:Int} (n:Nat) (l:Lnk) (h:l.sn=true) :
  ((lnRun c view now n l).1=l∧(lnRun c view now n l).2=[]) ∨
  ((lnRun c view now n l).1.sn=false∧(lnRun c view now n l).1.q.l=[]∧∃ f r,(lnRun c view now n l).2=f :: r∧f.k=3∧dels r=[]):=by
 cases n with
 | zero => exact .inl ⟨rfl,rfl⟩
 | succ n =>
  cases hs:lnStep c view now l with
  | none => rw [run_none hs]; exact .inl ⟨rfl,rfl⟩
  | some p =>
   obtain⟨f,m⟩:=p
   rw [run_some hs]
   obtain⟨f0,m0,hT,rfl,rfl,_,_⟩:=step_ways hs
   rcases tell_ways hT with ⟨_,rfl,rfl⟩ | ⟨e,_⟩ | ⟨e,_⟩
   ·have h1:=run_queue (c:=c) (view:=view) (now:=now) n ({ l with sn:=false,q:=⟨[],false⟩,dg:=now,b:=(pcTake c l.b now).1,seq:=l.seq+1 }:Lnk) rfl
    have h2:=run_nosnap (c:=c) (view:=view) (now:=now) n ({ l with sn:=false,q:=⟨[],false⟩,dg:=now,b:=(pcTake c l.b now).1,seq:=l.seq+1 }:Lnk) rfl
    have h3:=List.append_eq_nil_iff.1 h1.symm
    exact .inr ⟨h2.1,h3.2,_,_,rfl,rfl,h3.1⟩
   ·rw [h] at e; cases e
   ·rw [h] at e; cases e

theorem push_may {c:Cfg} {l:Lnk} {x:Chg} (h:lnMay c l=true) (hx:quOne x=true):lnMay c (lnPush c l x)=true:=by
 obtain⟨h1,h2,h3,h4,h5,h6,h7⟩:=lnMay_iff.1 h
 unfold lnPush
 by_cases hs:l.sn=true
 ·rw [if_pos hs]
  exact h
 ·rw [if_neg hs]
  by_cases hl:(quPush l.q x c.room).la=true
  ·rw [if_pos hl]
   exact ask_may h
  ·rw [if_neg hl]
   exact lnMay_iff.2 ⟨h1,h2,h3,quPush_may h4 hx,by simpa using hl,h6,fun e => absurd e hs⟩

theorem dels_drop {fs:List Frm} (h:dels fs=[]) (k:Nat):dels (fs.drop k)=[]:=by
 have h1:List.Sublist (dels (fs.drop k)) (dels fs):=(List.drop_sublist k fs).filterMap _
 rw [h] at h1
 exact List.sublist_nil.1 h1

theorem dels_at {fs:List Frm} {k:Nat} (hk:k < fs.length):fs.drop k=fs.getD k Frm.zero :: fs.drop (k+1):=by
 rw [List.drop_eq_getElem_cons hk,List.getD_eq_getElem?_getD,List.getElem?_eq_getElem hk]
 rfl

theorem emit_waits {c:Cfg} {l M:Lnk} {view:List Row} {now:Int} {fs:List Frm} (h:lnMay c l=true) (h2:diMay view=true) (h3:pcTime now=true) (hE:lnEmit c l view now=(M,fs)) :
  l.q.l=dels fs ++ M.q.l∧∀ k,k < fs.length→(fs.getD k Frm.zero).k=3→dels (fs.drop (k+1))=[]∧M.q.l=[]:=by
 rw [emit_run h h2 h3] at hE
 by_cases hs:l.sn=true
 ·have hq:=(lnMay_iff.1 h).2.2.2.2.2.2 hs
  rcases run_snap (c:=c) (view:=view) (now:=now) 65 l hs with ⟨e1,e2⟩ | ⟨e1,e2,f,r,e3,e4,e5⟩
  ·rw [hE] at e1 e2
   simp only at e1 e2
   subst e1 e2
   exact⟨rfl,fun k hk => by simp at hk⟩
  ·rw [hE] at e2 e3
   simp only at e2 e3
   subst e3
   refine ⟨by rw [hq,dels_not _ _ (by rw [e4]; decide),e5,e2]; rfl,fun k hk _ => ⟨?_,e2⟩⟩
   rw [List.drop_succ_cons]
   exact dels_drop e5 k
 ·have hs':l.sn=false:=by simpa using hs
  have h4:=run_queue (c:=c) (view:=view) (now:=now) 65 l hs'
  have h5:=(run_nosnap (c:=c) (view:=view) (now:=now) 65 l hs').2
  rw [hE] at h4 h5
  refine ⟨h4,fun k hk e => absurd e (h5 _ ?_)⟩
  rw [List.getD_eq_getElem?_getD,List.getElem?_eq_getElem hk]
  exact List.getElem_mem hk
end
section
open Go.RowKit

theorem new_first {ca cb cd ce:Int} (h:pcMay ⟨ca,cb,cd,ce⟩=true):lnNew ⟨ca,cb,cd,ce⟩ 0=(⟨0,⟨[],false⟩,⟨cb,0⟩,true,0⟩,0)∧lnMay ⟨ca,cb,cd,ce⟩ ⟨0,⟨[],false⟩,⟨cb,0⟩,true,0⟩=true:=by
 have ht:pcTime 0=true:=pcTime_iff.2 ⟨by decide,by decide⟩
 have hc:=pcMay_iff.1 h
 refine ⟨?_,lnMay_iff.2 ⟨pcOne_iff.2 ⟨h,?_,?_,?_,?_⟩,?_,?_,quMay_iff.2 ⟨?_,fun _ => rfl,(fun x hx => by cases hx),List.nodup_nil⟩,rfl,ht,fun _ => rfl⟩⟩
 ·unfold lnNew pcNew
  rw [h,ht]
  rfl
 all_goals simp only [List.length_nil,Int.ofNat_zero] at *
 all_goals omega
end
end Go.Proofs.Ytfocooajnignbaa
