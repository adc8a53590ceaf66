/-
 TEXTS OF THE PROOF, one behind the other: FraRfew, CliDoc, LinkPure, LinkPureB, CliFolP, SeqS, LnkFrm, QueOne, Rgm.
-/
import Derived.Test.YtekkofldhhdpgaaGreatD12
import Derived.Test.YtekkofldhhdpgaaGreatD23
import Derived.Test.YtekkofldhhdpgaaGreatD01
import Derived.Test.YtekkofldhhdpgaaGreatD10
import Derived.Test.YtekkofldhhdpgaaGreatD11
import Derived.Test.YtekkofldhhdpgaaGreatD08
import Derived.Test.YtekkofldhhdpgaaGreatD02
import Derived.Test.YtekkofldhhdpgaaGreatD03
import Derived.Test.YtekkofldhhdpgaaGreatD05
import Derived.Lib.QuietBelow

set_option maxHeartbeats 12800000
set_option maxRecDepth 100000

section

namespace Go.Proofs.YtekkofldhhdpgaaGreat
open Go.RowKit

def fewF (f:Frm):Bool:=fewT f.t && (decide (f.c.length≤60) && decide (f.v.st.length≤100))

theorem fewf_eq {w:World} {v:Value} {t:List Row} (hv:Tab w v t) (k s:Int) (on:Bool) (c:List UInt8) (sh pr si:Int) (st:List UInt8) (sum:Nat) (hc:c.length≤maxLen) (hst:st.length≤maxLen)
  {r:Bool} (h:Hid (fewF ⟨k,s,on,c,⟨sh,pr,si,st⟩,sum,t⟩=r)) :
  Calls Tryz.prog 13 #[.agg #[.int .i64 k,.int .i64 s,.bool on,.string ⟨c.toArray⟩,.int .i64 sh,.int .i64 pr,.int .i64 si,.string ⟨st.toArray⟩,.int .u64 sum,v]] w fun e w' => e=.returned (.bool r)∧Below w.heap.size w w':=by
 unfold maxLen at hc hst
 have B0:Hid (Below w.heap.size w (w.alloc (.cells #[.int .i64 k,.int .i64 s,.bool on,.string ⟨c.toArray⟩,.int .i64 sh,.int .i64 pr,.int .i64 si,.string ⟨st.toArray⟩,.int .u64 sum,v] 29))):=hZq ((Below.refl _ _).alloc (Nat.le_refl _) _)
 have HV:=hZq (hv.later B0.out)
 obtain⟨z,hz⟩ : ∃ z,fewT t=z:=⟨_,rfl⟩
 have HF:=hZq (fewt_eq HV.out (hZq hz))
 have e:=h.out
 unfold fewF at e
 simp only [hz] at e
 clear h hz hv
 cases z with
 | false =>
  obtain rfl:false=r:=by simpa using e
  go_enter Tryz.func13,Tryz.ntmps13
  go_wp2_with fail
  refine HF.out.mono ?_
  rintro e w1 ⟨rfl,rfl⟩
  go_wp2_with fail
  go_ret
  exact⟨rfl,B0.out⟩
 | true =>
  by_cases h1:c.length≤60
  ·by_cases h2:st.length≤100
   ·obtain rfl:true=r:=by simpa [h1,h2] using e
    have t1:decide ((c.length:Int)≤60)=true:=by simp; omega
    have t2:decide ((st.length:Int)≤100)=true:=by simp; omega
    clear h1 h2
    go_enter Tryz.func13,Tryz.ntmps13
    go_wp2_with fail
    refine HF.out.mono ?_
    rintro e w1 ⟨rfl,rfl⟩
    go_wp2_with fail
    go_ret
    exact⟨rfl,B0.out⟩
   ·obtain rfl:false=r:=by simpa [h1,h2] using e
    have t1:decide ((c.length:Int)≤60)=true:=by simp; omega
    have t2:decide ((st.length:Int)≤100)=false:=by simp; omega
    clear h1 h2
    go_enter Tryz.func13,Tryz.ntmps13
    go_wp2_with fail
    refine HF.out.mono ?_
    rintro e w1 ⟨rfl,rfl⟩
    go_wp2_with fail
    go_ret
    exact⟨rfl,B0.out⟩
  ·obtain rfl:false=r:=by simpa [h1] using e
   have t2:decide ((c.length:Int)≤60)=false:=by simp; omega
   go_enter Tryz.func13,Tryz.ntmps13
   go_wp2_with fail
   refine HF.out.mono ?_
   rintro e w1 ⟨rfl,rfl⟩
   go_wp2_with fail
   go_ret
   exact⟨rfl,B0.out⟩

end Go.Proofs.YtekkofldhhdpgaaGreat

end

section

namespace Go.Proofs.YtekkofldhhdpgaaGreat
open Go.RowKit

end Go.Proofs.YtekkofldhhdpgaaGreat

end

section

namespace Go.Proofs.YtekkofldhhdpgaaGreat

structure Lnk where
 seq:Int
 q:Que
 b:Bkt
 sn:Bool
 dg:Int

def lnMay (c:Cfg) (l:Lnk):Bool:=pcOne c l.b && (decide (0≤l.seq) && (decide (l.seq≤1099511627776) && (quMay l.q c.room && (!l.q.la && (pcTime l.dg && (!l.sn || decide (l.q.l=[])))))))
def lnAsk (l:Lnk):Lnk:={ l with sn:=true,q:=⟨[],false⟩ }
def lnPush (c:Cfg) (l:Lnk) (x:Chg):Lnk:=if l.sn=true then l else if (quPush l.q x c.room).la=true then lnAsk l else { l with q:=quPush l.q x c.room }
def lnQuiet (l:Lnk):Bool:=!l.sn && quEmpty l.q

def lnTell (c:Cfg) (view:List Row) (now:Int) (l:Lnk):Option (Frm × Lnk) :=
 if l.sn=true then some (⟨3,0,false,[],Val.zero,0,view⟩,{ l with sn:=false,q:=⟨[],false⟩,dg:=now })
 else match l.q.l with
  | x :: r => some (⟨1,0,x.on,x.c,x.v,0,[]⟩,{ l with q:=⟨r,l.q.la⟩ })
  | [] => if now - l.dg < c.per then none else some (⟨2,0,false,[],Val.zero,diSum view,[]⟩,{ l with dg:=now })

def lnStep (c:Cfg) (view:List Row) (now:Int) (l:Lnk):Option (Frm × Lnk) :=
 if 1099511627776≤l.seq then none
 else match lnTell c view now l with
  | none => none
  | some (f,m) => if (pcTake c l.b now).2=true then some ({ f with s:=l.seq },{ m with b:=(pcTake c l.b now).1,seq:=l.seq+1 }) else none

def lnRun (c:Cfg) (view:List Row) (now:Int):Nat→Lnk→Lnk × List Frm
 | 0,l => (l,[])
 | n+1,l => match lnStep c view now l with
  | none => (l,[])
  | some (f,m) => ((lnRun c view now n m).1,f :: (lnRun c view now n m).2)

def lnEmit (c:Cfg) (l:Lnk) (view:List Row) (now:Int):Lnk × List Frm :=
 if (lnMay c l && (diMay view && pcTime now))=true then lnRun c view now 65 l else (l,[])

theorem lnMay_iff {c:Cfg} {l:Lnk}:lnMay c l=true ↔ pcOne c l.b=true∧0≤l.seq∧l.seq≤1099511627776∧quMay l.q c.room=true∧l.q.la=false∧pcTime l.dg=true∧(l.sn=true→l.q.l=[]):=by
 unfold lnMay
 simp only [Bool.and_eq_true,Bool.or_eq_true,Bool.not_eq_true',decide_eq_true_eq]
 refine ⟨fun ⟨h1,h2,h3,h4,h5,h6,h7⟩ => ⟨h1,h2,h3,h4,h5,h6,fun hs => ?_⟩,fun ⟨h1,h2,h3,h4,h5,h6,h7⟩ => ⟨h1,h2,h3,h4,h5,h6,?_⟩⟩
 ·rcases h7 with h7 | h7
  ·rw [hs] at h7; cases h7
  ·exact h7
 ·cases hs:l.sn
  ·exact .inl rfl
  ·exact .inr (h7 hs)

theorem take_yes {c:Cfg} {b:Bkt} {now:Int} (h:pcOne c b=true) (hn:pcTime now=true) (ht:(pcTake c b now).2=true) :
  pcOne c (pcTake c b now).1=true∧pcLev c (pcTake c b now).1 now=pcLev c b now - 1∧1≤pcLev c b now:=by
 have hg:=pcLev_ge (now:=now) h
 rw [pcTake_in h hn] at ht ⊢
 by_cases h0:pcLev c b now=0
 ·rw [if_pos h0] at ht; cases ht
 ·rw [if_neg h0] at ht ⊢
  obtain⟨m,t0,t1,a0,a1⟩:=pcOne_iff.1 h
  obtain⟨n0,n1⟩:=pcTime_iff.1 hn
  refine ⟨pcOne_iff.2 ⟨m,by simp only; omega,by simp only; omega,by simp only; omega,by simp only; omega⟩,?_,by omega⟩
  unfold pcLev
  simp only
  rw [if_pos (by omega)]

theorem quMay_tail {x:Chg} {r:List Chg} {room:Int} (h:quMay ⟨x :: r,false⟩ room=true):quOne x=true∧quMay ⟨r,false⟩ room=true:=by
 obtain⟨m1,m2,m3,m4⟩:=quMay_iff.1 h
 simp only [List.length_cons] at m1
 exact⟨m3 x (by simp),quMay_iff.2 ⟨by simp only; omega,(fun e => by cases e),fun y hy => m3 y (List.mem_cons_of_mem _ hy),quNo2_tail m4⟩⟩

theorem tell_may {c:Cfg} {view:List Row} {now:Int} {l m:Lnk} {f:Frm} (h:lnMay c l=true) (hv:diMay view=true) (hn:pcTime now=true) (ht:lnTell c view now l=some (f,m)) :
  lnMay c m=true∧m.b=l.b∧m.seq=l.seq∧1≤f.k∧f.k≤3∧frRest f=true:=by
 obtain⟨h1,h2,h3,h4,h5,h6,h7⟩:=lnMay_iff.1 h
 obtain⟨seq,⟨q,la⟩,b,sn,dg⟩:=l
 simp only at h1 h2 h3 h4 h5 h6 h7
 subst h5
 unfold lnTell at ht
 simp only at ht
 cases sn with
 | true =>
  rw [if_pos rfl] at ht
  cases ht
  have hq:q=[]:=h7 rfl
  subst hq
  refine ⟨lnMay_iff.2 ⟨h1,h2,h3,h4,rfl,hn,fun e => by cases e⟩,rfl,rfl,by show (1:Int)≤3; decide,by show (3:Int)≤3; decide,?_⟩
  show ((!false && (([]:List UInt8) == [] && vSame Val.zero Val.zero)) && (decide ((0:Nat)=0) && diMay view))=true
  rw [hv]
  rfl
 | false =>
  rw [if_neg (by decide)] at ht
  cases q with
  | cons x r =>
   simp only at ht
   cases ht
   obtain⟨o1,o2⟩:=quMay_tail h4
   refine ⟨lnMay_iff.2 ⟨h1,h2,h3,o2,rfl,h6,fun e => by cases e⟩,rfl,rfl,by show (1:Int)≤1; decide,by show (1:Int)≤3; decide,?_⟩
   unfold quOne at o1
   show (decide ((0:Nat)=0) && (decide (([]:List Row).length=0) && (idIs x.c && (if x.on=true then vaMay x.v else vSame x.v Val.zero))))=true
   rw [o1]
   rfl
  | nil =>
   simp only at ht
   split at ht
   ·cases ht
   ·cases ht
    refine ⟨lnMay_iff.2 ⟨h1,h2,h3,h4,rfl,hn,fun e => by cases e⟩,rfl,rfl,by show (1:Int)≤2; decide,by show (2:Int)≤3; decide,?_⟩
    rfl

theorem step_may {c:Cfg} {view:List Row} {now:Int} {l m:Lnk} {f:Frm} (h:lnMay c l=true) (hv:diMay view=true) (hn:pcTime now=true) (ht:lnStep c view now l=some (f,m)) :
  lnMay c m=true∧m.seq=l.seq+1∧f.s=l.seq∧frMay f=true∧f.k≤3∧pcLev c m.b now=pcLev c l.b now - 1∧1≤pcLev c l.b now:=by
 unfold lnStep at ht
 split at ht
 ·cases ht
 ·rename_i hs
  split at ht
  ·cases ht
  ·rename_i f0 m0 hT
   split at ht
   ·rename_i hk
    cases ht
    obtain⟨t1,t2,t3,t4,t5,t6⟩:=tell_may h hv hn hT
    obtain⟨a1,a2,a3,a4,a5,a6,a7⟩:=lnMay_iff.1 h
    obtain⟨b1,b2,b3,b4,b5,b6,b7⟩:=lnMay_iff.1 t1
    obtain⟨k1,k2,k3⟩:=take_yes a1 hn hk
    refine ⟨lnMay_iff.2 ⟨k1,by simp only; omega,by simp only; omega,b4,b5,b6,b7⟩,rfl,rfl,?_,t5,k2,k3⟩
    unfold frMay
    simp only [Bool.and_eq_true,decide_eq_true_eq]
    exact⟨⟨t4,by omega⟩,⟨a2,by omega⟩,t6⟩
   ·cases ht

theorem run_none {c:Cfg} {view:List Row} {now:Int} {l:Lnk} (h:lnStep c view now l=none) (n:Nat):lnRun c view now (n+1) l=(l,[]):=by
 show (match lnStep c view now l with
  | none => (l,[])
  | some (f,m) => ((lnRun c view now n m).1,f :: (lnRun c view now n m).2))=_
 rw [h]

theorem run_some {c:Cfg} {view:List Row} {now:Int} {l m:Lnk} {f:Frm} (h:lnStep c view now l=some (f,m)) (n:Nat):lnRun c view now (n+1) l=((lnRun c view now n m).1,f :: (lnRun c view now n m).2):=by
 show (match lnStep c view now l with
  | none => (l,[])
  | some (f,m) => ((lnRun c view now n m).1,f :: (lnRun c view now n m).2))=_
 rw [h]

theorem run_may {c:Cfg} {view:List Row} {now:Int} (hv:diMay view=true) (hn:pcTime now=true):∀ (n:Nat) (l:Lnk),lnMay c l=true →
  lnMay c (lnRun c view now n l).1=true∧(lnRun c view now n l).1.seq=l.seq+(lnRun c view now n l).2.length∧((lnRun c view now n l).2.length:Int)+pcLev c (lnRun c view now n l).1.b now=pcLev c l.b now ∧
  ∀ i,(hi:i < (lnRun c view now n l).2.length)→frMay ((lnRun c view now n l).2[i])=true∧((lnRun c view now n l).2[i]).s=l.seq+i∧((lnRun c view now n l).2[i]).k≤3
 | 0,l,h => ⟨h,by simp [lnRun],by simp [lnRun],fun i hi => by simp [lnRun] at hi⟩
 | n+1,l,h => by
  cases hs:lnStep c view now l with
  | none => rw [run_none hs]; exact⟨h,by simp,by simp,fun i hi => by simp at hi⟩
  | some p =>
   obtain⟨f,m⟩:=p
   rw [run_some hs]
   obtain⟨s1,s2,s3,s4,s5,s6,_⟩:=step_may h hv hn hs
   obtain⟨r1,r2,r3,r4⟩:=run_may hv hn n m s1
   refine ⟨r1,?_,?_,fun i hi => ?_⟩
   ·simp only [List.length_cons]; omega
   ·simp only [List.length_cons]; omega
   ·cases i with
    | zero => exact⟨s4,by simp only [List.getElem_cons_zero]; omega,s5⟩
    | succ i =>
     simp only [List.length_cons] at hi
     obtain⟨q1,q2,q3⟩:=r4 i (by omega)
     simp only [List.getElem_cons_succ]
     exact⟨q1,by omega,q3⟩

end Go.Proofs.YtekkofldhhdpgaaGreat

end

section

namespace Go.Proofs.YtekkofldhhdpgaaGreat

def lnHas (has:List Row) (f:Frm):List Row:=if f.k=3 then f.t else if f.k=1 then diSet has ⟨f.c,f.on,f.v⟩ else has

theorem tell_ways {c:Cfg} {view:List Row} {now:Int} {l m:Lnk} {f:Frm} (ht:lnTell c view now l=some (f,m)) :
  (l.sn=true∧f=⟨3,0,false,[],Val.zero,0,view⟩∧m={ l with sn:=false,q:=⟨[],false⟩,dg:=now }) ∨
  (l.sn=false∧∃ x r,l.q.l=x :: r∧f=⟨1,0,x.on,x.c,x.v,0,[]⟩∧m={ l with q:=⟨r,l.q.la⟩ }) ∨
  (l.sn=false∧l.q.l=[]∧c.per≤now - l.dg∧f=⟨2,0,false,[],Val.zero,diSum view,[]⟩∧m={ l with dg:=now }):=by
 unfold lnTell at ht
 cases hs:l.sn with
 | true =>
  rw [if_pos hs] at ht
  cases ht
  exact .inl ⟨rfl,rfl,rfl⟩
 | false =>
  rw [if_neg (by rw [hs]; decide)] at ht
  cases hq:l.q.l with
  | cons x r =>
   rw [hq] at ht
   simp only at ht
   cases ht
   exact .inr (.inl ⟨rfl,x,r,rfl,rfl,by rw [hs]⟩)
  | nil =>
   rw [hq] at ht
   simp only at ht
   split at ht
   ·cases ht
   ·cases ht
    exact .inr (.inr ⟨rfl,rfl,by omega,rfl,by rw [hs]⟩)

theorem step_ways {c:Cfg} {view:List Row} {now:Int} {l m:Lnk} {f:Frm} (ht:lnStep c view now l=some (f,m)) :
  ∃ f0 m0,lnTell c view now l=some (f0,m0)∧f={ f0 with s:=l.seq }∧m={ m0 with b:=(pcTake c l.b now).1,seq:=l.seq+1 }∧(pcTake c l.b now).2=true∧l.seq < 1099511627776:=by
 unfold lnStep at ht
 split at ht
 ·cases ht
 ·split at ht
  ·cases ht
  ·rename_i f0 m0 hT
   split at ht
   ·rename_i hk
    cases ht
    exact⟨f0,m0,hT,rfl,rfl,hk,by omega⟩
   ·cases ht

theorem step_idle {c:Cfg} {view:List Row} {now:Int} {l:Lnk} (hs:l.sn=false) (hq:l.q.l=[]) (hd:now - l.dg < c.per):lnStep c view now l=none:=by
 cases h:lnStep c view now l with
 | none => rfl
 | some p =>
  obtain⟨f,m⟩:=p
  obtain⟨f0,m0,hT,_⟩:=step_ways h
  rcases tell_ways hT with ⟨e,_⟩ | ⟨_,x,r,e,_⟩ | ⟨_,_,e,_⟩
  ·rw [hs] at e; cases e
  ·rw [hq] at e; cases e
  ·omega

theorem ask_may {c:Cfg} {l:Lnk} (h:lnMay c l=true):lnMay c (lnAsk l)=true:=by
 obtain⟨h1,h2,h3,h4,h5,h6,h7⟩:=lnMay_iff.1 h
 obtain⟨m1,_⟩:=quMay_iff.1 h4
 exact lnMay_iff.2 ⟨h1,h2,h3,quMay_iff.2 ⟨by show ((0:Nat):Int)≤c.room; omega,fun _ => rfl,(fun x hx => by cases hx),List.nodup_nil⟩,rfl,h6,fun _ => rfl⟩

end Go.Proofs.YtekkofldhhdpgaaGreat

end

section

namespace Go.Proofs.YtekkofldhhdpgaaGreat

theorem rest_oneC {t:List Row} (h:RRise t) (x:List UInt8):t.length≤(diRest t x).length+1:=by
 induction t with
 | nil => simp
 | cons r t ih =>
  obtain⟨h1,h2⟩:=List.pairwise_cons.1 h
  unfold diRest at ih ⊢
  by_cases hc:r.c=x
  ·have e:t.filter (fun r => !(r.c == x))=t:=List.filter_eq_self.2 fun y hy => by
    have:=h1 y hy
    by_cases hy2:y.c=x
    ·rw [hc,hy2,idLess_irrefl] at this; cases this
    ·simp [hy2]
   rw [List.filter_cons,if_neg (by simp [hc]),e]
   simp
  ·rw [List.filter_cons,if_pos (by simp [hc])]
   have:=ih h2
   simp only [List.length_cons]
   omega

theorem set_oneC {t:List Row} (h:RRise t) (c:Chg):t.length≤(diSet t c).length+1:=by
 have:=rest_oneC h c.c
 unfold diSet
 split
 ·rw [diIns_len]; omega
 ·exact this

theorem setAll_moreC:∀ (l:List Chg) {t:List Row},RRise t→t.length≤(setAll t l).length+l.length
 | [],_,_ => by simp [setAll]
 | c :: l,t,h => by
  have h1:=set_oneC h c
  have h2:=setAll_moreC l (set_rise h c)
  show t.length≤(setAll (diSet t c) l).length+(l.length+1)
  omega

theorem waitsC {c:Cfg} {l:Lnk} (h:lnMay c l=true):l.q.l.length≤16∧(∀ x ∈ l.q.l,quOne x=true)∧quNo2 l.q.l∧l.q.la=false∧c.room≤16:=by
 obtain⟨h1,h2,h3,h4,h5,h6,h7⟩:=lnMay_iff.1 h
 obtain⟨m1,m2,m3,m4⟩:=quMay_iff.1 h4
 have:=(pcMay_iff.1 (pcOne_iff.1 h1).1).2.1
 exact⟨by omega,m3,m4,h5,this⟩

structure FolAt (cfg:Cfg) (c:Cli) (x:Lnk) (view:List Row):Prop where
 may:lnMay cfg x=true
 cm:clMay c=true
 on:c.o=false
 nx:c.n=x.seq
 ov:x.sn=false→setAll c.t x.q.l=view

theorem fol_step {cfg:Cfg} {c:Cli} {x m:Lnk} {f:Frm} {view:List Row} {now:Int} (h:FolAt cfg c x view) (hv:diMay view=true) (h16:view.length≤16) (hn:pcTime now=true) (hs:lnStep cfg view now x=some (f,m)):FolAt cfg (clFeed c f) m view:=by
 obtain⟨s1,s2,s3,s4,s5,_,_⟩:=step_may h.may hv hn hs
 have ht:=clTakes_of s4 (by omega) h.cm (by have:=h.nx; omega)
 have e:clFeed c f=clDo c f:=if_pos ht
 have hcm:=clFeed_may f h.cm
 have hnx:=clDo_n c f
 have hrise:RRise c.t:=(diMay_iff.1 (clMay_parts h.cm).2.2).2.2
 obtain⟨f0,m0,hT,hf0,hm0,_,_⟩:=step_ways hs
 have hW:=waitsC h.may
 rw [e] at hcm ⊢
 rcases tell_ways hT with ⟨h1,h2,h3⟩ | ⟨h1,y,r,hq,h2,h3⟩ | ⟨h1,hq,_,h2,h3⟩
 ·have hd:clDo c f=⟨view,f.s+1,false⟩:=by
   rw [hf0,h2]
   unfold clDo
   rw [if_pos rfl]
  rw [hd] at hcm ⊢
  refine ⟨s1,hcm,rfl,by show f.s+1=m.seq; omega,fun _ => ?_⟩
  rw [hm0,h3]
  rfl
 ·have hy:=hW.2.1 y (by rw [hq]; exact List.mem_cons_self)
  have hov:=h.ov h1
  rw [hq] at hov
  have hlen:=setAll_moreC r (set_rise hrise y)
  rw [show setAll (diSet c.t y) r=view from hov] at hlen
  have hr:r.length+1≤16:=by have:=hW.1; rw [hq] at this; simpa using this
  have hmay:diMay (diSet c.t y)=true:=by
   rw [set_may (clMay_parts h.cm).2.2 y]
   cases hon:y.on with
   | false => rfl
   | true =>
    have:rowOk ⟨y.c,y.v⟩=true:=by
     have:=hy
     unfold quOne at this
     rw [hon] at this
     simpa [rowOk] using this
    rw [this]
    simp
    omega
  have hk:f.k=1:=by rw [hf0,h2]
  have hch:(⟨f.c,f.on,f.v⟩ : Chg)=y:=by rw [hf0,h2]
  have hd:clDo c f=⟨diSet c.t y,f.s+1,false⟩:=by
   unfold clDo
   rw [if_neg (by omega),if_neg (by have:=h.nx; simp [h.on]; omega),if_neg (by omega),hch,if_pos hmay]
  rw [hd] at hcm ⊢
  refine ⟨s1,hcm,rfl,by show f.s+1=m.seq; omega,fun _ => ?_⟩
  rw [hm0,h3]
  exact hov
 ·have hov:=h.ov h1
  rw [hq] at hov
  have hct:c.t=view:=hov
  have hk:f.k=2:=by rw [hf0,h2]
  have hsum:f.sum=diSum view:=by rw [hf0,h2]
  have hd:clDo c f=⟨c.t,f.s+1,false⟩:=by
   unfold clDo
   rw [if_neg (by omega),if_neg (by have:=h.nx; simp [h.on]; omega),if_pos hk,hsum,hct]
   simp
  rw [hd] at hcm ⊢
  refine ⟨s1,hcm,rfl,by show f.s+1=m.seq; omega,fun _ => ?_⟩
  rw [hm0,h3]
  show setAll c.t x.q.l=view
  rw [hq]
  exact hct

theorem fol_run {cfg:Cfg} {view:List Row} {now:Int} (hv:diMay view=true) (h16:view.length≤16) (hn:pcTime now=true):∀ (n:Nat) {c:Cli} {x:Lnk},FolAt cfg c x view →
  FolAt cfg ((lnRun cfg view now n x).2.foldl clFeed c) (lnRun cfg view now n x).1 view ∧
  ∀ k,k≤(lnRun cfg view now n x).2.length→(((lnRun cfg view now n x).2.take k).foldl clFeed c).o=false∧clMay (((lnRun cfg view now n x).2.take k).foldl clFeed c)=true
 | 0,c,x,h => ⟨h,fun k hk => by
   have:k=0:=by simpa [lnRun] using hk
   subst this
   exact⟨h.on,h.cm⟩⟩
 | n+1,c,x,h => by
  cases hs:lnStep cfg view now x with
  | none =>
   rw [run_none hs]
   refine ⟨h,fun k hk => ?_⟩
   have:k=0:=by simpa using hk
   subst this
   exact⟨h.on,h.cm⟩
  | some p =>
   obtain⟨f,m⟩:=p
   rw [run_some hs]
   have h1:=fol_step h hv h16 hn hs
   obtain⟨r1,r2⟩:=fol_run hv h16 hn n h1
   refine ⟨r1,fun k hk => ?_⟩
   cases k with
   | zero => exact⟨h.on,h.cm⟩
   | succ k => exact r2 k (by simpa using hk)

theorem push_mayC {c:Cfg} {l:Lnk} {x:Chg} (h:lnMay c l=true) (hx:quOne x=true):lnMay c (lnPush c l x)=true:=by
 obtain⟨h1,h2,h3,h4,h5,h6,h7⟩:=lnMay_iff.1 h
 unfold lnPush
 by_cases hs:l.sn=true
 ·rw [if_pos hs]
  exact h
 ·rw [if_neg hs]
  by_cases hl:(quPush l.q x c.room).la=true
  ·rw [if_pos hl]
   exact ask_may h
  ·rw [if_neg hl]
   exact lnMay_iff.2 ⟨h1,h2,h3,quPush_may h4 hx,by simpa using hl,h6,fun e => absurd e hs⟩

theorem fol_push {cfg:Cfg} {c:Cli} {x:Lnk} {view:List Row} {y:Chg} (h:FolAt cfg c x view) (hy:quOne y=true):FolAt cfg c (lnPush cfg x y) (diSet view y):=by
 have hW:=waitsC h.may
 have hrise:RRise c.t:=(diMay_iff.1 (clMay_parts h.cm).2.2).2.2
 refine ⟨push_mayC h.may hy,h.cm,h.on,?_,?_⟩
 ·rw [h.nx]
  unfold lnPush
  split
  ·rfl
  ·split <;> rfl
 ·intro hs
  unfold lnPush at hs ⊢
  by_cases h1:x.sn=true
  ·rw [if_pos h1] at hs; rw [h1] at hs; cases hs
  ·rw [if_neg h1] at hs ⊢
   by_cases h2:(quPush x.q y cfg.room).la=true
   ·rw [if_pos h2] at hs; cases hs
   ·rw [if_neg h2]
    show setAll c.t (quPush x.q y cfg.room).l=diSet view y
    rw [over_push hrise hW.2.2.1 (by simpa using h2),h.ov (by simpa using h1)]

end Go.Proofs.YtekkofldhhdpgaaGreat

end

section

namespace Go.Proofs.YtekkofldhhdpgaaGreat
open Go.RowKit

theorem run_slice_from_S {α:Type} {P:Program} {vals:α→List Value} {sz:Nat} {zero:α} {T S:TypeId} {Z:Value} {bytes:Nat} (D:RowOK P vals sz zero T S Z bytes) (w:World) (ad:Addr) (n cap l:Nat) (I:Int) (hI:I=(l:Int)) (h:l≤n) :
  (Instr.slice S (.slice (some ad) n cap) (some (.int .i64 I)) none none).run P w=.ok (.slice (some (if cap=l then ad else ad.add (l * sz))) (n - l) (cap - l)) w:=by
 obtain⟨i,hi,hz,hsize,hby⟩:=info_parts D.info
 subst hI
 have he:P.elem S=T:=by unfold Program.elem; rw [D.under]
 rw [run_slice_l w S (some ad) n cap (by rw [he]; exact D.under) .i64 (l:Int) (by omega) (by omega),he,run_sizeOf w hi]
 simp only [Result.andThen,sliced,Int.toNat_natCast]
 have hc:P.cellsOf T=sz:=by unfold Program.cellsOf; rw [hi]; exact hsize
 rw [hc]
 split <;> rfl

theorem RdS.tail {α:Type} {vals:α→List Value} {sz:Nat} {zero:α} {w:World} {ad:Addr} {n cap:Nat} {l:List α} (h:RdS vals sz zero w (.slice (some ad) n cap) l) (_hsz:0 < sz) (p:Nat) (hp:p≤l.length) :
  RdS vals sz zero w (.slice (some (if cap=p then ad else ad.add (p * sz))) (n - p) (cap - p)) (l.drop p):=by
 obtain⟨a',cap',e,h1,h2,h3,h4⟩:=h
 simp only [Value.slice.injEq] at e
 obtain⟨rfl,rfl,rfl⟩:=e
 refine ⟨_,_,by rw [List.length_drop],by rw [List.length_drop]; omega,by omega,fun e => by simp at e,?_⟩
 rcases h4 with rfl | ⟨b,off,e,hlt,hc⟩
 ·exact .inl (by simp)
 ·by_cases hd:l.drop p=[]
  ·exact .inl hd
  ·have hpl:p < l.length:=by
    rcases Nat.lt_or_ge p l.length with hh | hh
    ·exact hh
    ·exact absurd (List.drop_eq_nil_of_le hh) hd
   obtain rfl:ad=⟨b,off,none⟩:=by simpa using e
   refine .inr ⟨b,off+p * sz,?_,hlt,fun i hi => ?_⟩
   ·rw [if_neg (by omega),Addr.add_lit]
   ·rw [List.length_drop] at hi
    have:=hc (p+i) (by omega)
    have e2:(l.drop p).getD i zero=l.getD (p+i) zero:=by
     rw [List.getD_eq_getElem?_getD,List.getD_eq_getElem?_getD,List.getElem?_drop]
    rw [e2,show off+p * sz+i * sz=off+(p+i) * sz by rw [Nat.add_mul]; omega]
    exact this

end Go.Proofs.YtekkofldhhdpgaaGreat

end

section

namespace Go.Proofs.YtekkofldhhdpgaaGreat
open Go.RowKit

structure FrS where
 f:Frm
 a:Option Addr
 n:Nat
 cap:Nat

def FrS.zero:FrS:=⟨Frm.zero,none,0,0⟩
def FrS.tv (p:FrS):Value:=.slice p.a p.n p.cap
def frVals (p:FrS):List Value:=[.int .i64 p.f.k,.int .i64 p.f.s,.bool p.f.on,.string ⟨p.f.c.toArray⟩,.int .i64 p.f.v.sh,.int .i64 p.f.v.pr,.int .i64 p.f.v.si,.string ⟨p.f.v.st.toArray⟩,.int .u64 p.f.sum,p.tv]

theorem frSOK:RowOK Tryz.prog frVals 10 FrS.zero 29 62 (.agg #[.int .i64 0,.int .i64 0,.bool false,.string ⟨#[]⟩,.int .i64 0,.int .i64 0,.int .i64 0,.string ⟨#[]⟩,.int .u64 0,.slice none 0 0]) 112 where
 len:=fun _ => rfl
 one:=fun p u hu => by
  simp only [frVals,FrS.tv,List.mem_cons,List.not_mem_nil,or_false] at hu
  rcases hu with rfl | rfl | rfl | rfl | rfl | rfl | rfl | rfl | rfl | rfl <;> rfl
 pos:=by decide
 small:=by decide
 under:=by kernel_rfl
 info:=by kernel_rfl
 zvals:=rfl
 fits:=by decide

def Frms (w:World) (v:Value) (l:List FrS):Prop:=RdS frVals 10 FrS.zero w v l∧∀ p ∈ l,Tab w p.tv p.f.t

theorem Frms.later {w w':World} {v:Value} {l:List FrS} (h:Frms w v l) (hb:Below w.heap.size w w'):Frms w' v l:=⟨RdS.later h.1 hb,fun p hp => (h.2 p hp).later hb⟩

end Go.Proofs.YtekkofldhhdpgaaGreat

end

section

namespace Go.Proofs.YtekkofldhhdpgaaGreat
open Go.RowKit

theorem six_new (w:World) (a b c d e f:Value) (t:TypeId):(w.alloc (.cells #[a,b,c,d,e,f] t)).cell? ⟨w.heap.size,0,none⟩=some a∧(w.alloc (.cells #[a,b,c,d,e,f] t)).cell? ⟨w.heap.size,1,none⟩=some b∧(w.alloc (.cells #[a,b,c,d,e,f] t)).cell? ⟨w.heap.size,2,none⟩=some c∧(w.alloc (.cells #[a,b,c,d,e,f] t)).cell? ⟨w.heap.size,3,none⟩=some d∧(w.alloc (.cells #[a,b,c,d,e,f] t)).cell? ⟨w.heap.size,4,none⟩=some e∧(w.alloc (.cells #[a,b,c,d,e,f] t)).cell? ⟨w.heap.size,5,none⟩=some f:=six_cells w a b c d e f t

theorem zero_eql (a b d:Int) (st:List UInt8) {r:Bool} (h:vSame ⟨a,b,d,st⟩ Val.zero=r) (w:World) :
  (binOp .eql 26 (.agg #[.int .i64 a,.int .i64 b,.int .i64 d,.string ⟨st.toArray⟩]) (.agg #[.int .i64 0,.int .i64 0,.int .i64 0,.string ⟨#[]⟩])).run Tryz.prog w=.ok (.bool r) w:=by
 have:=val_eql5 a b d 0 0 0 st [] w
 rw [show (⟨0,0,0,[]⟩ : Val)=Val.zero from rfl,h] at this
 exact this

theorem quone_is (c st:List UInt8) (on:Bool) (a b d:Int) (hc:c.length≤4294967296) (h:idIs c=false) (w:World) :
  Calls Tryz.prog 178 #[.agg #[.string ⟨c.toArray⟩,.bool on,.int .i64 a,.int .i64 b,.int .i64 d,.string ⟨st.toArray⟩]] w fun e w' => e=.returned (.bool false)∧Below w.heap.size w w':=by
 have b0:=bl_newZ w (.cells #[.string ⟨c.toArray⟩,.bool on,.int .i64 a,.int .i64 b,.int .i64 d,.string ⟨st.toArray⟩] 58)
 have HB:=hZq b0
 have C:Hid (Cells6 (w.alloc (.cells #[.string ⟨c.toArray⟩,.bool on,.int .i64 a,.int .i64 b,.int .i64 d,.string ⟨st.toArray⟩] 58)) w.heap.size 0 ⟨c,on,⟨a,b,d,st⟩⟩):=hZq (six_new w _ _ _ _ _ _ _)
 have hlt:=Nat.lt_succ_self w.heap.size
 clear b0
 have HH:=hZq h
 clear h
 go_enter Tryz.func178,Tryz.ntmps178
 go_wp2_with fail
 refine (is_eq c hc HH _).mono ?_
 rintro e w1 ⟨rfl,b1⟩
 replace C:=hZq (C.out.later b1 (by simp))
 replace HB:=hZq (below2Z HB.out b1)
 clear b1
 obtain⟨q0,q1,q2,q3,q4,q5⟩:=C.out
 simp only [Nat.zero_add] at q1 q2 q3 q4 q5
 go_wp2_with fail
 go_ret
 exact⟨rfl,HB.out⟩

theorem quone_on (c st:List UInt8) (a b d:Int) (hc:c.length≤4294967296) (hs:st.length≤4294967296) (h:idIs c=true) {r:Bool} (hr:vaMay ⟨a,b,d,st⟩=r) (w:World) :
  Calls Tryz.prog 178 #[.agg #[.string ⟨c.toArray⟩,.bool true,.int .i64 a,.int .i64 b,.int .i64 d,.string ⟨st.toArray⟩]] w fun e w' => e=.returned (.bool r)∧Below w.heap.size w w':=by
 have b0:=bl_newZ w (.cells #[.string ⟨c.toArray⟩,.bool true,.int .i64 a,.int .i64 b,.int .i64 d,.string ⟨st.toArray⟩] 58)
 have HB:=hZq b0
 have C:Hid (Cells6 (w.alloc (.cells #[.string ⟨c.toArray⟩,.bool true,.int .i64 a,.int .i64 b,.int .i64 d,.string ⟨st.toArray⟩] 58)) w.heap.size 0 ⟨c,true,⟨a,b,d,st⟩⟩):=hZq (six_new w _ _ _ _ _ _ _)
 have hlt:=Nat.lt_succ_self w.heap.size
 clear b0
 have HH:=hZq h
 have HR:=hZq hr
 clear h hr
 go_enter Tryz.func178,Tryz.ntmps178
 go_wp2_with fail
 refine (is_eq c hc HH _).mono ?_
 rintro e w1 ⟨rfl,b1⟩
 replace C:=hZq (C.out.later b1 (by simp))
 replace HB:=hZq (below2Z HB.out b1)
 clear b1
 obtain⟨q0,q1,q2,q3,q4,q5⟩:=C.out
 simp only [Nat.zero_add] at q1 q2 q3 q4 q5
 go_wp2_with fail
 refine (may_eq a b d st hs HR _).mono ?_
 rintro e w2 ⟨rfl,b2⟩
 replace HB:=hZq (below2Z HB.out b2)
 clear b2
 go_wp2_with fail
 go_ret
 exact⟨rfl,HB.out⟩

theorem quone_off (c st:List UInt8) (a b d:Int) (hc:c.length≤4294967296) (h:idIs c=true) {r:Bool} (hr:vSame ⟨a,b,d,st⟩ Val.zero=r) (w:World) :
  Calls Tryz.prog 178 #[.agg #[.string ⟨c.toArray⟩,.bool false,.int .i64 a,.int .i64 b,.int .i64 d,.string ⟨st.toArray⟩]] w fun e w' => e=.returned (.bool r)∧Below w.heap.size w w':=by
 have b0:=bl_newZ w (.cells #[.string ⟨c.toArray⟩,.bool false,.int .i64 a,.int .i64 b,.int .i64 d,.string ⟨st.toArray⟩] 58)
 have HB:=hZq b0
 have C:Hid (Cells6 (w.alloc (.cells #[.string ⟨c.toArray⟩,.bool false,.int .i64 a,.int .i64 b,.int .i64 d,.string ⟨st.toArray⟩] 58)) w.heap.size 0 ⟨c,false,⟨a,b,d,st⟩⟩):=hZq (six_new w _ _ _ _ _ _ _)
 have hlt:=Nat.lt_succ_self w.heap.size
 clear b0
 have HH:=hZq h
 have heq:=fun w => zero_eql a b d st hr w
 have hgd:Tryz.prog.eqGuardType Tryz.prog.depth 26=false:=by kernel_rfl
 clear h hr
 go_enter Tryz.func178,Tryz.ntmps178
 go_wp2_with fail
 refine (is_eq c hc HH _).mono ?_
 rintro e w1 ⟨rfl,b1⟩
 replace C:=hZq (C.out.later b1 (by simp))
 replace HB:=hZq (below2Z HB.out b1)
 clear b1
 obtain⟨q0,q1,q2,q3,q4,q5⟩:=C.out
 simp only [Nat.zero_add] at q1 q2 q3 q4 q5
 go_wp2_with fail
 go_ret
 exact⟨rfl,HB.out⟩

theorem quone_any (c st:List UInt8) (on:Bool) (a b d:Int) (hc:c.length≤4294967296) (hs:st.length≤4294967296) {r:Bool} (h:Hid (quOne ⟨c,on,⟨a,b,d,st⟩⟩=r)) (w:World) :
  Calls Tryz.prog 178 #[.agg #[.string ⟨c.toArray⟩,.bool on,.int .i64 a,.int .i64 b,.int .i64 d,.string ⟨st.toArray⟩]] w fun e w' => e=.returned (.bool r)∧Below w.heap.size w w':=by
 have h:=h.out
 unfold quOne at h
 simp only at h
 cases hi:idIs c with
 | false =>
  rw [hi,Bool.false_and] at h
  subst h
  exact quone_is c st on a b d hc hi w
 | true =>
  rw [hi,Bool.true_and] at h
  cases on with
  | true =>
   rw [if_pos rfl] at h
   exact quone_on c st a b d hc hs hi h w
  | false =>
   rw [if_neg (by simp)] at h
   exact quone_off c st a b d hc hi h w

theorem rquone_is (c st:List UInt8) (on:Bool) (a b d:Int) (hc:c.length≤4294967296) (h:idIs c=false) (w:World) :
  Calls Tryz.prog 29 #[.agg #[.string ⟨c.toArray⟩,.bool on,.int .i64 a,.int .i64 b,.int .i64 d,.string ⟨st.toArray⟩]] w fun e w' => e=.returned (.bool false)∧Below w.heap.size w w':=by
 have b0:=bl_newZ w (.cells #[.string ⟨c.toArray⟩,.bool on,.int .i64 a,.int .i64 b,.int .i64 d,.string ⟨st.toArray⟩] 58)
 have HB:=hZq b0
 have C:Hid (Cells6 (w.alloc (.cells #[.string ⟨c.toArray⟩,.bool on,.int .i64 a,.int .i64 b,.int .i64 d,.string ⟨st.toArray⟩] 58)) w.heap.size 0 ⟨c,on,⟨a,b,d,st⟩⟩):=hZq (six_new w _ _ _ _ _ _ _)
 have hlt:=Nat.lt_succ_self w.heap.size
 clear b0
 have HH:=hZq h
 clear h
 go_enter Tryz.func29,Tryz.ntmps29
 go_wp2_with fail
 refine (ris_eq c hc HH _).mono ?_
 rintro e w1 ⟨rfl,rfl⟩
 go_wp2_with fail
 go_ret
 exact⟨rfl,HB.out⟩

theorem rquone_on (c st:List UInt8) (a b d:Int) (hc:c.length≤4294967296) (hs:st.length≤4294967296) (h:idIs c=true) {r:Bool} (hr:vaMay ⟨a,b,d,st⟩=r) (w:World) :
  Calls Tryz.prog 29 #[.agg #[.string ⟨c.toArray⟩,.bool true,.int .i64 a,.int .i64 b,.int .i64 d,.string ⟨st.toArray⟩]] w fun e w' => e=.returned (.bool r)∧Below w.heap.size w w':=by
 have b0:=bl_newZ w (.cells #[.string ⟨c.toArray⟩,.bool true,.int .i64 a,.int .i64 b,.int .i64 d,.string ⟨st.toArray⟩] 58)
 have HB:=hZq b0
 have C:Hid (Cells6 (w.alloc (.cells #[.string ⟨c.toArray⟩,.bool true,.int .i64 a,.int .i64 b,.int .i64 d,.string ⟨st.toArray⟩] 58)) w.heap.size 0 ⟨c,true,⟨a,b,d,st⟩⟩):=hZq (six_new w _ _ _ _ _ _ _)
 have hlt:=Nat.lt_succ_self w.heap.size
 clear b0
 have HH:=hZq h
 have HR:=hZq hr
 clear h hr
 go_enter Tryz.func29,Tryz.ntmps29
 go_wp2_with fail
 refine (ris_eq c hc HH _).mono ?_
 rintro e w1 ⟨rfl,rfl⟩
 go_wp2_with fail
 refine (rmay_eq a b d st hs HR _).mono ?_
 rintro e w2 ⟨rfl,b2⟩
 replace HB:=hZq (below2Z HB.out b2)
 clear b2
 go_wp2_with fail
 go_ret
 exact⟨rfl,HB.out⟩

theorem rquone_off (c st:List UInt8) (a b d:Int) (hc:c.length≤4294967296) (h:idIs c=true) {r:Bool} (hr:vSame ⟨a,b,d,st⟩ Val.zero=r) (w:World) :
  Calls Tryz.prog 29 #[.agg #[.string ⟨c.toArray⟩,.bool false,.int .i64 a,.int .i64 b,.int .i64 d,.string ⟨st.toArray⟩]] w fun e w' => e=.returned (.bool r)∧Below w.heap.size w w':=by
 have b0:=bl_newZ w (.cells #[.string ⟨c.toArray⟩,.bool false,.int .i64 a,.int .i64 b,.int .i64 d,.string ⟨st.toArray⟩] 58)
 have HB:=hZq b0
 have C:Hid (Cells6 (w.alloc (.cells #[.string ⟨c.toArray⟩,.bool false,.int .i64 a,.int .i64 b,.int .i64 d,.string ⟨st.toArray⟩] 58)) w.heap.size 0 ⟨c,false,⟨a,b,d,st⟩⟩):=hZq (six_new w _ _ _ _ _ _ _)
 have hlt:=Nat.lt_succ_self w.heap.size
 clear b0
 have HH:=hZq h
 have heq:=fun w => zero_eql a b d st hr w
 have hgd:Tryz.prog.eqGuardType Tryz.prog.depth 26=false:=by kernel_rfl
 clear h hr
 go_enter Tryz.func29,Tryz.ntmps29
 go_wp2_with fail
 refine (ris_eq c hc HH _).mono ?_
 rintro e w1 ⟨rfl,rfl⟩
 go_wp2_with fail
 go_ret
 exact⟨rfl,HB.out⟩

theorem rquone_any (c st:List UInt8) (on:Bool) (a b d:Int) (hc:c.length≤4294967296) (hs:st.length≤4294967296) {r:Bool} (h:Hid (quOne ⟨c,on,⟨a,b,d,st⟩⟩=r)) (w:World) :
  Calls Tryz.prog 29 #[.agg #[.string ⟨c.toArray⟩,.bool on,.int .i64 a,.int .i64 b,.int .i64 d,.string ⟨st.toArray⟩]] w fun e w' => e=.returned (.bool r)∧Below w.heap.size w w':=by
 have h:=h.out
 unfold quOne at h
 simp only at h
 cases hi:idIs c with
 | false =>
  rw [hi,Bool.false_and] at h
  subst h
  exact rquone_is c st on a b d hc hi w
 | true =>
  rw [hi,Bool.true_and] at h
  cases on with
  | true =>
   rw [if_pos rfl] at h
   exact rquone_on c st a b d hc hs hi h w
  | false =>
   rw [if_neg (by simp)] at h
   exact rquone_off c st a b d hc hi h w

end Go.Proofs.YtekkofldhhdpgaaGreat

end

section

namespace Go.Proofs.YtekkofldhhdpgaaGreat
open Go.RowKit

end Go.Proofs.YtekkofldhhdpgaaGreat

end
