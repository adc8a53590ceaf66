/-
 TEXTS OF THE PROOF, one behind the other: CliFolP, RepP, QueOne, Rgm, QueMay, ChgIns, QueFind, LnkMem, QuePush, SeqS, DigRset, DigSameC.
-/
import Derived.Test.YtmpigdokghngiaaGreatQ05
import Derived.Test.YtmpigdokghngiaaGreatQ14
import Derived.Test.YtmpigdokghngiaaGreatQ04
import Derived.Test.YtmpigdokghngiaaGreatQ01
import Derived.Test.YtmpigdokghngiaaGreatQ02
import Derived.Lib.QuietBelow
import Derived.Test.YtmpigdokghngiaaGreatQ03
import Derived.Lib.Hide
import Derived.Maps.OwnSet
import Derived.Deep.RegionHeld
import Derived.Deep.AppendLies
import Derived.WalkSpells
import Derived.StillTailTactics
import Derived.Deep.DeepCutAuto
import Derived.Deep.CutBlock

set_option maxHeartbeats 12800000
set_option maxRecDepth 100000

section
namespace Go.Proofs.YtmpigdokghngiaaGreat

theorem waitsC {c:Cfg} {l:Lnk} (h:lnMay c l=true):l.q.l.length≤16∧(∀ x ∈ l.q.l,quOne x=true)∧quNo2 l.q.l∧l.q.la=false∧c.room≤16:=by
 obtain⟨h1,h2,h3,h4,h5,h6,h7⟩:=lnMay_iff.1 h
 obtain⟨m1,m2,m3,m4⟩:=quMay_iff.1 h4
 have:=(pcMay_iff.1 (pcOne_iff.1 h1).1).2.1
 exact⟨by omega,m3,m4,h5,this⟩

structure FolAt (cfg:Cfg) (c:Cli) (x:Lnk) (view:List Row):Prop where
 may:lnMay cfg x=true
 cm:clMay c=true
 on:c.o=false
 nx:c.n=x.seq
 ov:x.sn=false→setAll c.t x.q.l=view

end Go.Proofs.YtmpigdokghngiaaGreat
end

section
namespace Go.Proofs.YtmpigdokghngiaaGreat

def rpRound (cfg : Cfg) (view : List Row) (now : Int) (s : Lnk × Cli) : Lnk × Cli :=
  (if ((((lnEmit cfg s.1 view now).2.foldl clFeed s.2).o && clMay ((lnEmit cfg s.1 view now).2.foldl clFeed s.2)) = true) then lnAsk (lnEmit cfg s.1 view now).1 else (lnEmit cfg s.1 view now).1,
   (lnEmit cfg s.1 view now).2.foldl clFeed s.2)

def rpSettle (cfg:Cfg) (view:List Row):Nat→Int→Lnk × Cli→Lnk × Cli
 | 0,_,s => s
 | n+1,t,s => rpSettle cfg view n (t+1) (rpRound cfg view (t+1) s)

theorem rpSettle_last (cfg:Cfg) (view:List Row):∀ (n:Nat) (t:Int) (s:Lnk × Cli),rpSettle cfg view (n+1) t s=rpRound cfg view (t+n+1) (rpSettle cfg view n t s)
 | 0,t,s => by
  show rpRound cfg view (t+1) s=rpRound cfg view (t+(0:Nat)+1) s
  congr 1
  omega
 | n+1,t,s => by
  show rpSettle cfg view (n+1) (t+1) (rpRound cfg view (t+1) s)=_
  rw [rpSettle_last cfg view n (t+1)]
  show rpRound cfg view (t+1+n+1) (rpSettle cfg view n (t+1) (rpRound cfg view (t+1) s))=rpRound cfg view (t+(n+1:Nat)+1) (rpSettle cfg view n (t+1) (rpRound cfg view (t+1) s))
  congr 1
  omega

theorem rpSettle_add (cfg:Cfg) (view:List Row):∀ (n m:Nat) (t:Int) (s:Lnk × Cli),rpSettle cfg view (n+m) t s=rpSettle cfg view m (t+n) (rpSettle cfg view n t s)
 | 0,m,t,s => by
  rw [Nat.zero_add]
  show rpSettle cfg view m t s=rpSettle cfg view m (t+(0:Nat)) s
  congr 1
  omega
 | n+1,m,t,s => by
  rw [show n+1+m=n+m+1 by omega]
  show rpSettle cfg view (n+m) (t+1) (rpRound cfg view (t+1) s)=_
  rw [rpSettle_add cfg view n m (t+1)]
  show rpSettle cfg view m (t+1+n) _=rpSettle cfg view m (t+(n+1:Nat)) _
  congr 1
  omega

def rpSynced (s:Lnk × Cli) (view:List Row):Bool:=lnQuiet s.1 && (!s.2.o && (decide (s.2.n=s.1.seq) && tSame s.2.t view))

def rpBound (c:Cfg):Int:=if pcMay c=true then c.room+c.per+2 else 0

def rpRead (l:Lnk) (s:List UInt8):Lnk × Nat:=if (frDec s).2=0 then (if (frDec s).1.k=4 then (lnAsk l,0) else (l,3)) else (l,(frDec s).2)

structure RpI (cfg:Cfg) (s:Lnk × Cli) (t:Int) (k:Nat):Prop where
 may:lnMay cfg s.1=true
 cm:clMay s.2=true
 nx:s.2.n≤s.1.seq
 at1:s.1.b.at'≤t
 t0:0≤t
 t1:t+k≤1099511627776
 sq:s.1.seq+65 * (k:Int)≤1099511627776

theorem feed_all {cfg:Cfg} {view:List Row} {now:Int} (hv:diMay view=true) (hn:pcTime now=true):∀ (n:Nat) {c:Cli} {x:Lnk},lnMay cfg x=true→clMay c=true→c.n≤x.seq →
  clMay ((lnRun cfg view now n x).2.foldl clFeed c)=true∧((lnRun cfg view now n x).2.foldl clFeed c).n≤(lnRun cfg view now n x).1.seq
 | 0,c,x,h,hc,hx => ⟨hc,hx⟩
 | n+1,c,x,h,hc,hx => by
  cases hs:lnStep cfg view now x with
  | none => rw [run_none hs]; exact⟨hc,hx⟩
  | some p =>
   obtain⟨f,m⟩:=p
   rw [run_some hs]
   obtain⟨s1,s2,s3,s4,s5,_,_⟩:=step_may h hv hn hs
   refine feed_all hv hn n s1 (clFeed_may f hc) ?_
   unfold clFeed
   split
   ·rw [clDo_n]; omega
   ·omega

theorem feed_out {c:Cli} (ho:c.o=true):∀ {fs:List Frm},(∀ f ∈ fs,¬ f.k=3)→(fs.foldl clFeed c).o=true:=by
 intro fs
 induction fs generalizing c with
 | nil => intro _; exact ho
 | cons f fs ih =>
  intro h
  refine ih ?_ fun g hg => h g (List.mem_cons_of_mem _ hg)
  unfold clFeed
  split
  ·unfold clDo
   rw [if_neg (h f List.mem_cons_self),if_pos (by simp [ho])]
  ·exact ho

theorem take_at {c:Cfg} {b:Bkt} {now:Int} (h:pcOne c b=true) (hn:pcTime now=true) (hb:b.at'≤now):(pcTake c b now).1.at'≤now:=by
 rw [pcTake_in h hn]
 split <;> (simp only; omega)

theorem run_at {cfg:Cfg} {view:List Row} {now:Int} (hv:diMay view=true) (hn:pcTime now=true):∀ (n:Nat) {x:Lnk},lnMay cfg x=true→x.b.at'≤now→(lnRun cfg view now n x).1.b.at'≤now
 | 0,x,h,hb => hb
 | n+1,x,h,hb => by
  cases hs:lnStep cfg view now x with
  | none => rw [run_none hs]; exact hb
  | some p =>
   obtain⟨f,m⟩:=p
   rw [run_some hs]
   obtain⟨s1,_⟩:=step_may h hv hn hs
   obtain⟨f0,m0,_,_,hm,_,_⟩:=step_ways hs
   refine run_at hv hn n s1 ?_
   rw [hm]
   exact take_at (lnMay_iff.1 h).1 hn hb

theorem run_dg {cfg:Cfg} {view:List Row} {now:Int}:∀ (n:Nat) {x:Lnk},x.dg≤now→(lnRun cfg view now n x).1.dg≤now
 | 0,x,hb => hb
 | n+1,x,hb => by
  cases hs:lnStep cfg view now x with
  | none => rw [run_none hs]; exact hb
  | some p =>
   obtain⟨f,m⟩:=p
   rw [run_some hs]
   obtain⟨f0,m0,hT,_,hm,_,_⟩:=step_ways hs
   refine run_dg n ?_
   rw [hm]
   rcases tell_ways hT with ⟨_,_,h3⟩ | ⟨_,_,_,_,_,h3⟩ | ⟨_,_,_,_,h3⟩
   ·rw [h3]; exact Int.le_refl _
   ·rw [h3]; exact hb
   ·rw [h3]; exact Int.le_refl _

theorem rp_step {cfg:Cfg} {view:List Row} {s:Lnk × Cli} {t:Int} {k:Nat} (h:RpI cfg s t (k+1)) (hv:diMay view=true) :
  pcTime (t+1)=true∧lnEmit cfg s.1 view (t+1)=lnRun cfg view (t+1) 65 s.1∧1≤pcLev cfg s.1.b (t+1)∧RpI cfg (rpRound cfg view (t+1) s) (t+1) k:=by
 obtain⟨h1,h2,h3,h4,h5,h6,h7⟩:=h
 have hn:pcTime (t+1)=true:=pcTime_iff.2 ⟨by omega,by omega⟩
 have e:lnEmit cfg s.1 view (t+1)=lnRun cfg view (t+1) 65 s.1:=by
  unfold lnEmit
  rw [if_pos (by rw [h1,hv,hn]; rfl)]
 have ho:=(lnMay_iff.1 h1).1
 have hp:=pcMay_iff.1 (pcOne_iff.1 ho).1
 have hlev:1≤pcLev cfg s.1.b (t+1):=by
  unfold pcLev
  rw [if_neg (by omega)]
  have hm:=(mul_ge (a:=t+1 - s.1.b.at') (r:=cfg.rate) (by omega) hp.2.2.2.2.1).1
  have:=(pcOne_iff.1 ho).2.1
  omega
 refine ⟨hn,e,hlev,?_⟩
 obtain⟨r1,r2,r3,r4⟩:=run_may hv hn 65 s.1 h1
 obtain⟨f1,f2⟩:=feed_all hv hn 65 h1 h2 h3
 have hat:=run_at hv hn 65 h1 (by omega:s.1.b.at'≤t+1)
 have hge:=(pcLev_ge (now:=t+1) (lnMay_iff.1 r1).1).1
 have hle:=(pcLev_ge (now:=t+1) ho).2.1
 have hlen:((lnRun cfg view (t+1) 65 s.1).2.length:Int)≤64:=by omega
 have hx:(if ((((lnRun cfg view (t+1) 65 s.1).2.foldl clFeed s.2).o && clMay ((lnRun cfg view (t+1) 65 s.1).2.foldl clFeed s.2))=true) then lnAsk (lnRun cfg view (t+1) 65 s.1).1 else (lnRun cfg view (t+1) 65 s.1).1).seq=(lnRun cfg view (t+1) 65 s.1).1.seq:=by split <;> rfl
 have hb:(if ((((lnRun cfg view (t+1) 65 s.1).2.foldl clFeed s.2).o && clMay ((lnRun cfg view (t+1) 65 s.1).2.foldl clFeed s.2))=true) then lnAsk (lnRun cfg view (t+1) 65 s.1).1 else (lnRun cfg view (t+1) 65 s.1).1).b=(lnRun cfg view (t+1) 65 s.1).1.b:=by split <;> rfl
 unfold rpRound
 rw [e]
 refine ⟨?_,f1,?_,?_,by omega,by push_cast at h6; omega,?_⟩
 ·show lnMay cfg (if _ then _ else _)=true
  split
  ·exact ask_may r1
  ·exact r1
 ·show _≤(if _ then _ else _:Lnk).seq
  rw [hx]; exact f2
 ·show (if _ then _ else _:Lnk).b.at'≤_
  rw [hb]; exact hat
 ·show (if _ then _ else _:Lnk).seq+_≤_
  rw [hx,r2]
  push_cast at h7
  omega

def RpQ (s:Lnk × Cli) (view:List Row):Prop:=s.1.sn=false∧s.1.q.l=[]∧s.1.q.la=false∧s.2.o=false∧s.2.n=s.1.seq∧diSum s.2.t=diSum view

theorem rpSynced_iff {s:Lnk × Cli} {view:List Row}:rpSynced s view=true ↔ (s.1.sn=false∧s.1.q.l=[]∧s.1.q.la=false)∧s.2.o=false∧s.2.n=s.1.seq∧s.2.t=view:=by
 unfold rpSynced lnQuiet quEmpty
 simp only [Bool.and_eq_true,Bool.not_eq_true',decide_eq_true_eq,tSame_iff,List.length_eq_zero_iff]

theorem feed_one (c:Cli) (f:Frm):[f].foldl clFeed c=clFeed c f:=rfl

theorem run_idle {cfg:Cfg} {view:List Row} {now:Int} {x:Lnk} (h:lnMay cfg x=true) (hs:x.sn=false) (hq:x.q.l=[]) (_hn:pcTime now=true) (_hv:diMay view=true) :
  lnRun cfg view now 65 x=(x,[])∨lnRun cfg view now 65 x=(⟨x.seq+1,x.q,(pcTake cfg x.b now).1,false,now⟩,[⟨2,x.seq,false,[],Val.zero,diSum view,[]⟩])∧cfg.per≤now - x.dg:=by
 cases hst:lnStep cfg view now x with
 | none => exact .inl (run_none hst 64)
 | some p =>
  obtain⟨f,m⟩:=p
  have hp:=(pcMay_iff.1 (pcOne_iff.1 (lnMay_iff.1 h).1).1).2.2.2.2.2.2.1
  obtain⟨f0,m0,hT,hf,hm,_,_⟩:=step_ways hst
  rcases tell_ways hT with ⟨h1,_,_⟩ | ⟨h1,y,r,h2,_,_⟩ | ⟨h1,h2,h3,h4,h5⟩
  ·rw [hs] at h1; cases h1
  ·rw [hq] at h2; cases h2
  ·refine .inr ⟨?_,h3⟩
   rw [h4] at hf
   rw [h5] at hm
   have hm2:m=⟨x.seq+1,x.q,(pcTake cfg x.b now).1,false,now⟩:=by rw [hm,hs]
   rw [run_some hst 64,hm2,run_none (step_idle (l:=⟨x.seq+1,x.q,(pcTake cfg x.b now).1,false,now⟩) rfl hq (by show now - now < cfg.per; omega)) 63,hf]

theorem feed_dg {c:Cli} {view:List Row} {s:Int} (hc:clMay c=true) (hn:c.n≤s) (h0:0≤s) (h1:s≤1099511627776) :
  clFeed c ⟨2,s,false,[],Val.zero,diSum view,[]⟩=⟨c.t,s+1,c.o || (decide (c.n < s) || !decide (diSum c.t=diSum view))⟩:=by
 have hm:frMay ⟨2,s,false,[],Val.zero,diSum view,[]⟩=true:=by
  refine frMay_iff.2 ⟨(by show (1:Int)≤2; decide),(by show (2:Int)≤4; decide),h0,h1,?_⟩
  unfold frRest
  simp [vSame_self]
 unfold clFeed
 rw [if_pos (clTakes_of hm (by show ¬ (2:Int)=4; decide) hc hn)]
 unfold clDo
 simp only [show ¬ (2:Int)=3 by decide,if_false,if_true]
 cases c.o <;> by_cases h:c.n < s <;> simp [h]

theorem rp_quiet {cfg:Cfg} {view:List Row} {s:Lnk × Cli} {now:Int} (h1:lnMay cfg s.1=true) (hc:clMay s.2=true) (hn:pcTime now=true) (hv:diMay view=true) (hq:RpQ s view) :
  RpQ (rpRound cfg view now s) view∧(rpRound cfg view now s).2.t=s.2.t∧s.1.seq≤(rpRound cfg view now s).1.seq∧(rpRound cfg view now s).1.seq≤s.1.seq+1:=by
 obtain⟨q1,q2,q3,q4,q5,q6⟩:=hq
 have e:lnEmit cfg s.1 view now=lnRun cfg view now 65 s.1:=by
  unfold lnEmit
  rw [if_pos (by rw [h1,hv,hn]; rfl)]
 have hseq:=lnMay_iff.1 h1
 rcases run_idle h1 q1 q2 hn hv with hr | ⟨hr,_⟩
 ·have er:rpRound cfg view now s=s:=by
   unfold rpRound
   rw [e,hr]
   show (if (s.2.o && clMay s.2)=true then lnAsk s.1 else s.1,s.2)=s
   rw [q4]
   rfl
  rw [er]
  exact⟨⟨q1,q2,q3,q4,q5,q6⟩,rfl,Int.le_refl _,by omega⟩
 ·have ec:=feed_dg (view:=view) hc (by omega:s.2.n≤s.1.seq) hseq.2.1 hseq.2.2.1
  rw [q4,q5,q6] at ec
  have er:rpRound cfg view now s=(⟨s.1.seq+1,s.1.q,(pcTake cfg s.1.b now).1,false,now⟩,⟨s.2.t,s.1.seq+1,false⟩):=by
   unfold rpRound
   rw [e,hr,feed_one,ec]
   simp
  rw [er]
  exact⟨⟨rfl,q2,q3,rfl,rfl,q6⟩,rfl,by show s.1.seq≤s.1.seq+1; omega,Int.le_refl _⟩

theorem rp_quiet_all {cfg:Cfg} {view:List Row} (hv:diMay view=true):∀ (k:Nat) {s:Lnk × Cli} {t:Int},RpI cfg s t k→RpQ s view→RpQ (rpSettle cfg view k t s) view
 | 0,_,_,_,hq => hq
 | k+1,s,t,h,hq => by
  obtain⟨hn,_,_,hi⟩:=rp_step h hv
  exact rp_quiet_all hv k hi (rp_quiet h.may h.cm hn hv hq).1

theorem rp_snap {cfg:Cfg} {view:List Row} {s:Lnk × Cli} {t:Int} {k:Nat} (h:RpI cfg s t (k+1)) (hv:diMay view=true) (hs:s.1.sn=true):rpRound cfg view (t+1) s=(⟨s.1.seq+1,⟨[],false⟩,(pcTake cfg s.1.b (t+1)).1,false,t+1⟩,⟨view,s.1.seq+1,false⟩):=by
 obtain⟨hn,e,hlev,_⟩:=rp_step h hv
 have hsq:s.1.seq < 1099511627776:=by have:=h.sq; push_cast at this; omega
 have hseq:=lnMay_iff.1 h.may
 have ha:lnAsk s.1=s.1:=by
  obtain⟨x,c⟩:=s
  obtain⟨seq,⟨ql,la⟩,b,sn,dg⟩:=x
  have h1:=hseq.2.2.2.2.2.2 hs
  have h2:=hseq.2.2.2.2.1
  simp only at h1 h2 hs
  subst h1 h2 hs
  rfl
 have hr:=(run_asked (view:=view) hn h.may hsq).2 (by omega)
 rw [ha] at hr
 have hm:frMay ⟨3,s.1.seq,false,[],Val.zero,0,view⟩=true:=by
  refine frMay_iff.2 ⟨(by show (1:Int)≤3; decide),(by show (3:Int)≤4; decide),hseq.2.1,hseq.2.2.1,?_⟩
  unfold frRest
  simp [vSame_self,hv]
 have ec:clFeed s.2 ⟨3,s.1.seq,false,[],Val.zero,0,view⟩=⟨view,s.1.seq+1,false⟩:=by
  unfold clFeed
  rw [if_pos (clTakes_of hm (by show ¬ (3:Int)=4; decide) h.cm h.nx)]
  unfold clDo
  rw [if_pos rfl]
 unfold rpRound
 rw [e,hr,feed_one,ec]
 rfl

theorem rp_snap_quiet {cfg:Cfg} {view:List Row} {s:Lnk × Cli} {t:Int} {k:Nat} (h:RpI cfg s t (k+1)) (hv:diMay view=true) (hs:s.1.sn=true):RpQ (rpSettle cfg view (k+1) t s) view:=by
 obtain⟨hn,_,_,hi⟩:=rp_step h hv
 have e:=rp_snap h hv hs
 refine rp_quiet_all hv k hi ?_
 rw [e]
 exact⟨rfl,rfl,rfl,rfl,rfl,rfl⟩

theorem rp_asked {cfg:Cfg} {view:List Row} {s:Lnk × Cli} {t:Int} {k:Nat} (h:RpI cfg s t (k+1)) (hv:diMay view=true) (ho:(rpRound cfg view (t+1) s).2.o=true):(rpRound cfg view (t+1) s).1.sn=true:=by
 obtain⟨_,_,_,hi⟩:=rp_step h hv
 have hc:=hi.cm
 unfold rpRound at ho hc ⊢
 show (if _ then _ else _:Lnk).sn=true
 rw [if_pos (by rw [ho,hc]; rfl)]
 rfl

theorem rp_out {cfg:Cfg} {view:List Row} {s:Lnk × Cli} {t:Int} {k:Nat} (h:RpI cfg s t (k+1)) (hv:diMay view=true) (hs:s.1.sn=false) (ho:s.2.o=true):(rpRound cfg view (t+1) s).1.sn=true:=by
 refine rp_asked h hv ?_
 obtain⟨_,e,_,_⟩:=rp_step h hv
 unfold rpRound
 rw [e]
 exact feed_out ho (run_nosnap 65 s.1 hs).2

theorem rp_soon {cfg:Cfg} {view:List Row} {s:Lnk × Cli} {t:Int} {k:Nat} (h:RpI cfg s t (k+2)) (hv:diMay view=true) (ho:s.2.o=true∨s.1.sn=true):RpQ (rpSettle cfg view (k+2) t s) view:=by
 cases hs:s.1.sn with
 | true => exact rp_snap_quiet h hv hs
 | false =>
  have ho:s.2.o=true:=ho.resolve_right (by rw [hs]; decide)
  have h1:=rp_out h hv hs ho
  obtain⟨_,_,_,hi⟩:=rp_step h hv
  exact (show RpQ (rpSettle cfg view (k+1) (t+1) (rpRound cfg view (t+1) s)) view from rp_snap_quiet hi hv h1)

theorem rp_dg {cfg:Cfg} {view:List Row} {s:Lnk × Cli} {t:Int} {k:Nat} (h:RpI cfg s t (k+2)) (hv:diMay view=true) (hq:s.1.q.l=[]) (ho:s.2.o=false) (hr:lnRun cfg view (t+1) 65 s.1=(⟨s.1.seq+1,s.1.q,(pcTake cfg s.1.b (t+1)).1,false,t+1⟩,[⟨2,s.1.seq,false,[],Val.zero,diSum view,[]⟩])):RpQ (rpSettle cfg view (k+2) t s) view:=by
 obtain⟨hn,e,hlev,hi⟩:=rp_step h hv
 have hseq:=lnMay_iff.1 h.may
 have ec:=feed_dg (view:=view) h.cm h.nx hseq.2.1 hseq.2.2.1
 rw [ho] at ec
 cases hob:(rpRound cfg view (t+1) s).2.o with
 | true => exact (show RpQ (rpSettle cfg view (k+1) (t+1) (rpRound cfg view (t+1) s)) view from rp_snap_quiet hi hv (rp_asked h hv hob))
 | false =>
  refine rp_quiet_all hv (k+1) hi ?_
  have e2:rpRound cfg view (t+1) s=(if ((clFeed s.2 ⟨2,s.1.seq,false,[],Val.zero,diSum view,[]⟩).o && clMay (clFeed s.2 ⟨2,s.1.seq,false,[],Val.zero,diSum view,[]⟩))=true then lnAsk ⟨s.1.seq+1,s.1.q,(pcTake cfg s.1.b (t+1)).1,false,t+1⟩ else ⟨s.1.seq+1,s.1.q,(pcTake cfg s.1.b (t+1)).1,false,t+1⟩,clFeed s.2 ⟨2,s.1.seq,false,[],Val.zero,diSum view,[]⟩):=by
   unfold rpRound
   rw [e,hr,feed_one]
  rw [e2] at hob ⊢
  simp only at hob
  rw [hob]
  simp only [Bool.false_and,Bool.false_eq_true,if_false]
  rw [ec] at hob ⊢
  simp only [Bool.false_or,Bool.or_eq_false_iff,decide_eq_false_iff_not,Bool.not_eq_false',decide_eq_true_eq] at hob
  refine ⟨rfl,hq,hseq.2.2.2.2.1,?_,rfl,hob.2⟩
  simp [hob.1,hob.2]

theorem rp_due {cfg:Cfg} {view:List Row} (hv:diMay view=true):∀ (k:Nat) {s:Lnk × Cli} {t:Int},RpI cfg s t (k+2)→s.1.sn=false→s.1.q.l=[]→s.2.o=false→s.1.dg+cfg.per≤t+1+k→RpQ (rpSettle cfg view (k+2) t s) view:=by
 intro k
 induction k with
 | zero =>
  intro s t h hs hq ho hd
  obtain⟨hn,e,hlev,hi⟩:=rp_step h hv
  have hseq:=lnMay_iff.1 h.may
  have hsq:s.1.seq < 1099511627776:=by have:=h.sq; push_cast at this; omega
  rcases run_idle h.may hs hq hn hv with hr | ⟨hr,_⟩
  ·exfalso
   have hst:lnStep cfg view (t+1) s.1=none:=by
    cases hst:lnStep cfg view (t+1) s.1 with
    | none => rfl
    | some p => obtain⟨f,m⟩:=p; rw [run_some hst 64] at hr; simp at hr
   rcases step_none hst with e1 | e1 | ⟨_,_,e3⟩
   ·omega
   ·have:=take_no hseq.1 hn e1; omega
   ·push_cast at hd; omega
  ·exact rp_dg h hv hq ho hr
 | succ k ih =>
  intro s t h hs hq ho hd
  obtain⟨hn,e,hlev,hi⟩:=rp_step h hv
  rcases run_idle h.may hs hq hn hv with hr | ⟨hr,_⟩
  ·have er:rpRound cfg view (t+1) s=s:=by
    unfold rpRound
    rw [e,hr]
    show (if (s.2.o && clMay s.2)=true then lnAsk s.1 else s.1,s.2)=s
    rw [ho]
    rfl
   show RpQ (rpSettle cfg view (k+2) (t+1) (rpRound cfg view (t+1) s)) view
   rw [er] at hi ⊢
   exact ih hi hs hq ho (by push_cast at hd; omega)
  ·exact rp_dg h hv hq ho hr

theorem run_len {cfg:Cfg} {view:List Row} {now:Int}:∀ (n:Nat) (x:Lnk),(lnRun cfg view now n x).1.q.l.length≤x.q.l.length
 | 0,x => Nat.le_refl _
 | n+1,x => by
  cases hs:lnStep cfg view now x with
  | none => rw [run_none hs]; exact Nat.le_refl _
  | some p =>
   obtain⟨f,m⟩:=p
   rw [run_some hs]
   obtain⟨f0,m0,hT,_,hm,_,_⟩:=step_ways hs
   refine Nat.le_trans (run_len n m) ?_
   rw [hm]
   rcases tell_ways hT with ⟨_,_,h3⟩ | ⟨_,y,r,h2,_,h3⟩ | ⟨_,_,_,_,h3⟩
   ·rw [h3]; exact Nat.zero_le _
   ·rw [h3,h2]; exact Nat.le_succ _
   ·rw [h3]; exact Nat.le_refl _

theorem run_less {cfg:Cfg} {view:List Row} {now:Int} {x:Lnk} {y:Chg} {r:List Chg} (h:lnMay cfg x=true) (hn:pcTime now=true) (hlev:1≤pcLev cfg x.b now) (hsq:x.seq < 1099511627776) (hs:x.sn=false) (hq:x.q.l=y :: r):(lnRun cfg view now 65 x).1.q.l.length≤r.length:=by
 cases hst:lnStep cfg view now x with
 | none =>
  exfalso
  rcases step_none hst with e1 | e1 | ⟨_,e2,_⟩
  ·omega
  ·have:=take_no (lnMay_iff.1 h).1 hn e1; omega
  ·rw [hq] at e2; cases e2
 | some p =>
  obtain⟨f,m⟩:=p
  rw [run_some hst 64]
  refine Nat.le_trans (run_len 64 m) ?_
  obtain⟨f0,m0,hT,_,hm,_,_⟩:=step_ways hst
  rw [hm]
  rcases tell_ways hT with ⟨h1,_,_⟩ | ⟨_,y',r',h2,_,h3⟩ | ⟨_,h2,_,_,_⟩
  ·rw [hs] at h1; cases h1
  ·rw [hq] at h2
   cases h2
   rw [h3]
   exact Nat.le_refl _
  ·rw [hq] at h2; cases h2

theorem rp_wait {cfg:Cfg} {view:List Row} (hv:diMay view=true) {per:Nat} (hper:cfg.per=per):∀ (j k:Nat) {s:Lnk × Cli} {t:Int},RpI cfg s t k→s.1.sn=false→s.2.o=false→s.1.dg≤t→s.1.q.l.length≤j→j+per+1≤k→RpQ (rpSettle cfg view k t s) view:=by
 intro j
 induction j with
 | zero =>
  intro k s t h hs ho hd hj hk
  have hp:=(pcMay_iff.1 (pcOne_iff.1 (lnMay_iff.1 h.may).1).1).2.2.2.2.2.2.1
  obtain⟨k,rfl⟩ : ∃ m,k=m+2:=⟨k - 2,by omega⟩
  exact rp_due hv k h hs (List.length_eq_zero_iff.1 (by omega)) ho (by omega)
 | succ j ih =>
  intro k s t h hs ho hd hj hk
  by_cases hq:s.1.q.l=[]
  ·have hp:=(pcMay_iff.1 (pcOne_iff.1 (lnMay_iff.1 h.may).1).1).2.2.2.2.2.2.1
   obtain⟨k,rfl⟩ : ∃ m,k=m+2:=⟨k - 2,by omega⟩
   exact rp_due hv k h hs hq ho (by omega)
  ·obtain⟨y,r,hy⟩:=List.exists_cons_of_ne_nil hq
   obtain⟨k,rfl⟩ : ∃ m,k=m+2:=⟨k - 2,by omega⟩
   obtain⟨hn,e,hlev,hi⟩:=rp_step h hv
   have hsq:s.1.seq < 1099511627776:=by have:=h.sq; push_cast at this; omega
   cases hob:(rpRound cfg view (t+1) s).2.o with
   | true => exact (show RpQ (rpSettle cfg view (k+1) (t+1) (rpRound cfg view (t+1) s)) view from rp_snap_quiet hi hv (rp_asked h hv hob))
   | false =>
    have hx:(rpRound cfg view (t+1) s).1=(lnRun cfg view (t+1) 65 s.1).1:=by
     have hob2:=hob
     unfold rpRound at hob2 ⊢
     rw [e] at hob2 ⊢
     simp only at hob2 ⊢
     rw [hob2]
     rfl
    refine ih (k+1) hi ?_ hob ?_ ?_ (by omega)
    ·rw [hx]; exact (run_nosnap 65 s.1 hs).1
    ·rw [hx]; exact run_dg 65 (by omega)
    ·rw [hx]
     have:=run_less (view:=view) h.may hn hlev hsq hs hy
     rw [hy] at hj
     simp only [List.length_cons] at hj
     omega

theorem rp_settles {cfg:Cfg} {view:List Row} {s:Lnk × Cli} {t:Int} {k:Nat} (h1:lnMay cfg s.1=true) (h2:clMay s.2=true) (hv:diMay view=true) (ht0:0≤t) (ht1:t≤549755813888) (hat:s.1.b.at'≤t) (hdg:s.1.dg≤t) (hn:s.2.n≤s.1.seq) (hsq:s.1.seq≤549755813888) (hk:rpBound cfg≤k) (hk2:k≤2000):RpQ (rpSettle cfg view k t s) view:=by
 have hp0:=(pcOne_iff.1 (lnMay_iff.1 h1).1).1
 have hp:=pcMay_iff.1 hp0
 unfold rpBound at hk
 rw [if_pos hp0] at hk
 have hi:RpI cfg s t k:=⟨h1,h2,hn,hat,ht0,by omega,by omega⟩
 by_cases ho:s.2.o=true∨s.1.sn=true
 ·obtain⟨k,rfl⟩ : ∃ m,k=m+2:=⟨k - 2,by omega⟩
  exact rp_soon hi hv ho
 ·have hW:=waitsC h1
  have hm:=(quMay_iff.1 (lnMay_iff.1 h1).2.2.2.1).1
  obtain⟨per,hper⟩:=Int.eq_ofNat_of_zero_le (show 0≤cfg.per by omega)
  refine rp_wait hv hper s.1.q.l.length k hi ?_ ?_ hdg (Nat.le_refl _) (by omega)
  ·cases h:s.1.sn with
   | true => exact absurd (Or.inr h) ho
   | false => rfl
  ·cases h:s.2.o with
   | true => exact absurd (Or.inl h) ho
   | false => rfl

theorem rp_quiet_sync {s:Lnk × Cli} {view:List Row} (h:RpQ s view):rpSynced s view=tSame s.2.t view:=by
 obtain⟨q1,q2,q3,q4,q5,q6⟩:=h
 unfold rpSynced lnQuiet quEmpty
 rw [q1,q2,q3,q4,q5]
 simp

theorem rp_round_may {cfg:Cfg} {view:List Row} {now:Int} {s:Lnk × Cli} (h1:lnMay cfg s.1=true) (hc:clMay s.2=true) (hx:s.2.n≤s.1.seq) (hn:pcTime now=true) (hv:diMay view=true):lnMay cfg (rpRound cfg view now s).1=true∧clMay (rpRound cfg view now s).2=true:=by
 have e:lnEmit cfg s.1 view now=lnRun cfg view now 65 s.1:=by
  unfold lnEmit
  rw [if_pos (by rw [h1,hv,hn]; rfl)]
 obtain⟨r1,_⟩:=run_may hv hn 65 s.1 h1
 obtain⟨f1,_⟩:=feed_all hv hn 65 h1 hc hx
 unfold rpRound
 rw [e]
 refine ⟨?_,f1⟩
 show lnMay cfg (if _ then _ else _)=true
 split
 ·exact ask_may r1
 ·exact r1

theorem rp_stays {cfg:Cfg} {view:List Row} (hv:diMay view=true):∀ (k:Nat) {s:Lnk × Cli} {t:Int},lnMay cfg s.1=true→clMay s.2=true→0≤t→t+k≤1099511627776→rpSynced s view=true →
  rpSynced (rpSettle cfg view k t s) view=true∧(rpSettle cfg view k t s).2.t=s.2.t∧s.1.seq≤(rpSettle cfg view k t s).1.seq∧(rpSettle cfg view k t s).1.seq≤s.1.seq+k
 | 0,s,t,_,_,_,_,hs => ⟨hs,rfl,Int.le_refl _,by show s.1.seq≤s.1.seq+(0:Nat); omega⟩
 | k+1,s,t,h1,hc,h0,h2,hs => by
  obtain⟨⟨a1,a2,a3⟩,a4,a5,a6⟩:=rpSynced_iff.1 hs
  have hq:RpQ s view:=⟨a1,a2,a3,a4,a5,by rw [a6]⟩
  have hn:pcTime (t+1)=true:=pcTime_iff.2 ⟨by omega,by push_cast at h2; omega⟩
  obtain⟨q1,q2,q3,q4⟩:=rp_quiet h1 hc hn hv hq
  obtain⟨m1,m2⟩:=rp_round_may h1 hc (by omega) hn hv
  have hs2:rpSynced (rpRound cfg view (t+1) s) view=true:=by
   rw [rp_quiet_sync q1,q2,a6]
   exact tSame_iff.2 rfl
  obtain⟨r1,r2,r3,r4⟩:=rp_stays hv k m1 m2 (by omega:0≤t+1) (by push_cast at h2; omega) hs2
  refine ⟨r1,r2.trans q2,Int.le_trans q3 r3,?_⟩
  show (rpSettle cfg view k (t+1) (rpRound cfg view (t+1) s)).1.seq≤s.1.seq+(k+1:Nat)
  push_cast
  omega

theorem rp_two {cfg:Cfg} {view:List Row} {s:Lnk × Cli} {t:Int} (h1:lnMay cfg s.1=true) (h2:clMay s.2=true) (hv:diMay view=true) (ht0:0≤t) (ht1:t≤549755813888) (hat:s.1.b.at'≤t) (hn:s.2.n≤s.1.seq) (hsq:s.1.seq≤549755813888) (ho:s.2.o=true∨s.1.sn=true) :
  (s.1.sn=true→rpSynced (rpRound cfg view (t+1) s) view=true)∧rpSynced (rpRound cfg view (t+2) (rpRound cfg view (t+1) s)) view=true∧clMay (rpRound cfg view (t+2) (rpRound cfg view (t+1) s)).2=true:=by
 have hi:RpI cfg s t 2:=⟨h1,h2,hn,hat,ht0,by omega,by omega⟩
 obtain⟨_,_,_,hi1⟩:=rp_step hi hv
 have hi1':RpI cfg (rpRound cfg view (t+1) s) (t+1) 1:=hi1
 obtain⟨_,_,_,hi2⟩:=rp_step hi1' hv
 rw [show t+1+1=t+2 by omega] at hi2
 have hself:tSame view view=true:=tSame_iff.2 rfl
 cases hs:s.1.sn with
 | true =>
  have e:=rp_snap hi hv hs
  have s1:rpSynced (rpRound cfg view (t+1) s) view=true:=by
   rw [e]
   unfold rpSynced lnQuiet quEmpty
   simp [hself]
  have st:=rp_stays hv 1 hi1.may hi1.cm hi1.t0 (by have:=hi1.t1; simpa using this) s1
  have e2:rpSettle cfg view 1 (t+1) (rpRound cfg view (t+1) s)=rpRound cfg view (t+2) (rpRound cfg view (t+1) s):=by
   show rpRound cfg view (t+1+1) _=_
   rw [show t+1+1=t+2 by omega]
  rw [e2] at st
  exact⟨fun _ => s1,st.1,hi2.cm⟩
 | false =>
  have ho:s.2.o=true:=ho.resolve_right (by rw [hs]; decide)
  have h3:=rp_out hi hv hs ho
  have e:=rp_snap hi1' hv h3
  rw [show t+1+1=t+2 by omega] at e
  refine ⟨fun h => (by cases h),?_,hi2.cm⟩
  rw [e]
  unfold rpSynced lnQuiet quEmpty
  simp [hself]

end Go.Proofs.YtmpigdokghngiaaGreat
end

section
namespace Go.Proofs.YtmpigdokghngiaaGreat
open Go.RowKit

theorem six_new (w:World) (a b c d e f:Value) (t:TypeId):(w.alloc (.cells #[a,b,c,d,e,f] t)).cell? ⟨w.heap.size,0,none⟩=some a∧(w.alloc (.cells #[a,b,c,d,e,f] t)).cell? ⟨w.heap.size,1,none⟩=some b∧(w.alloc (.cells #[a,b,c,d,e,f] t)).cell? ⟨w.heap.size,2,none⟩=some c∧(w.alloc (.cells #[a,b,c,d,e,f] t)).cell? ⟨w.heap.size,3,none⟩=some d∧(w.alloc (.cells #[a,b,c,d,e,f] t)).cell? ⟨w.heap.size,4,none⟩=some e∧(w.alloc (.cells #[a,b,c,d,e,f] t)).cell? ⟨w.heap.size,5,none⟩=some f:=six_cells w a b c d e f t

theorem zero_eql (a b d:Int) (st:List UInt8) {r:Bool} (h:vSame ⟨a,b,d,st⟩ Val.zero=r) (w:World) :
  (binOp .eql 53 (.agg #[.int .i64 a,.int .i64 b,.int .i64 d,.string ⟨st.toArray⟩]) (.agg #[.int .i64 0,.int .i64 0,.int .i64 0,.string ⟨#[]⟩])).run Tryz.prog w=.ok (.bool r) w:=by
 have:=val_eql5 a b d 0 0 0 st [] w
 rw [show (⟨0,0,0,[]⟩ : Val)=Val.zero from rfl,h] at this
 exact this

theorem quone_is (c st:List UInt8) (on:Bool) (a b d:Int) (hc:c.length≤4294967296) (h:idIs c=false) (w:World) :
  Calls Tryz.prog 163 #[.agg #[.string ⟨c.toArray⟩,.bool on,.int .i64 a,.int .i64 b,.int .i64 d,.string ⟨st.toArray⟩]] w fun e w' => e=.returned (.bool false)∧Below w.heap.size w w':=by
 have b0:=bl_newZ w (.cells #[.string ⟨c.toArray⟩,.bool on,.int .i64 a,.int .i64 b,.int .i64 d,.string ⟨st.toArray⟩] 105)
 have HB:=hZq b0
 have C:Hid (Cells6 (w.alloc (.cells #[.string ⟨c.toArray⟩,.bool on,.int .i64 a,.int .i64 b,.int .i64 d,.string ⟨st.toArray⟩] 105)) w.heap.size 0 ⟨c,on,⟨a,b,d,st⟩⟩):=hZq (six_new w _ _ _ _ _ _ _)
 have hlt:=Nat.lt_succ_self w.heap.size
 clear b0
 have HH:=hZq h
 clear h
 go_enter Tryz.func163,Tryz.ntmps163
 go_wp2_with fail
 refine (is_eq c hc HH _).mono ?_
 rintro e w1 ⟨rfl,b1⟩
 replace C:=hZq (C.out.later b1 (by simp))
 replace HB:=hZq (below2Z HB.out b1)
 clear b1
 obtain⟨q0,q1,q2,q3,q4,q5⟩:=C.out
 simp only [Nat.zero_add] at q1 q2 q3 q4 q5
 go_wp2_with fail
 go_ret
 exact⟨rfl,HB.out⟩

theorem quone_on (c st:List UInt8) (a b d:Int) (hc:c.length≤4294967296) (hs:st.length≤4294967296) (h:idIs c=true) {r:Bool} (hr:vaMay ⟨a,b,d,st⟩=r) (w:World) :
  Calls Tryz.prog 163 #[.agg #[.string ⟨c.toArray⟩,.bool true,.int .i64 a,.int .i64 b,.int .i64 d,.string ⟨st.toArray⟩]] w fun e w' => e=.returned (.bool r)∧Below w.heap.size w w':=by
 have b0:=bl_newZ w (.cells #[.string ⟨c.toArray⟩,.bool true,.int .i64 a,.int .i64 b,.int .i64 d,.string ⟨st.toArray⟩] 105)
 have HB:=hZq b0
 have C:Hid (Cells6 (w.alloc (.cells #[.string ⟨c.toArray⟩,.bool true,.int .i64 a,.int .i64 b,.int .i64 d,.string ⟨st.toArray⟩] 105)) w.heap.size 0 ⟨c,true,⟨a,b,d,st⟩⟩):=hZq (six_new w _ _ _ _ _ _ _)
 have hlt:=Nat.lt_succ_self w.heap.size
 clear b0
 have HH:=hZq h
 have HR:=hZq hr
 clear h hr
 go_enter Tryz.func163,Tryz.ntmps163
 go_wp2_with fail
 refine (is_eq c hc HH _).mono ?_
 rintro e w1 ⟨rfl,b1⟩
 replace C:=hZq (C.out.later b1 (by simp))
 replace HB:=hZq (below2Z HB.out b1)
 clear b1
 obtain⟨q0,q1,q2,q3,q4,q5⟩:=C.out
 simp only [Nat.zero_add] at q1 q2 q3 q4 q5
 go_wp2_with fail
 refine (may_eq a b d st hs HR _).mono ?_
 rintro e w2 ⟨rfl,b2⟩
 replace HB:=hZq (below2Z HB.out b2)
 clear b2
 go_wp2_with fail
 go_ret
 exact⟨rfl,HB.out⟩

theorem quone_off (c st:List UInt8) (a b d:Int) (hc:c.length≤4294967296) (h:idIs c=true) {r:Bool} (hr:vSame ⟨a,b,d,st⟩ Val.zero=r) (w:World) :
  Calls Tryz.prog 163 #[.agg #[.string ⟨c.toArray⟩,.bool false,.int .i64 a,.int .i64 b,.int .i64 d,.string ⟨st.toArray⟩]] w fun e w' => e=.returned (.bool r)∧Below w.heap.size w w':=by
 have b0:=bl_newZ w (.cells #[.string ⟨c.toArray⟩,.bool false,.int .i64 a,.int .i64 b,.int .i64 d,.string ⟨st.toArray⟩] 105)
 have HB:=hZq b0
 have C:Hid (Cells6 (w.alloc (.cells #[.string ⟨c.toArray⟩,.bool false,.int .i64 a,.int .i64 b,.int .i64 d,.string ⟨st.toArray⟩] 105)) w.heap.size 0 ⟨c,false,⟨a,b,d,st⟩⟩):=hZq (six_new w _ _ _ _ _ _ _)
 have hlt:=Nat.lt_succ_self w.heap.size
 clear b0
 have HH:=hZq h
 have heq:=fun w => zero_eql a b d st hr w
 have hgd:Tryz.prog.eqGuardType Tryz.prog.depth 53=false:=by kernel_rfl
 clear h hr
 go_enter Tryz.func163,Tryz.ntmps163
 go_wp2_with fail
 refine (is_eq c hc HH _).mono ?_
 rintro e w1 ⟨rfl,b1⟩
 replace C:=hZq (C.out.later b1 (by simp))
 replace HB:=hZq (below2Z HB.out b1)
 clear b1
 obtain⟨q0,q1,q2,q3,q4,q5⟩:=C.out
 simp only [Nat.zero_add] at q1 q2 q3 q4 q5
 go_wp2_with fail
 go_ret
 exact⟨rfl,HB.out⟩

theorem quone_any (c st:List UInt8) (on:Bool) (a b d:Int) (hc:c.length≤4294967296) (hs:st.length≤4294967296) {r:Bool} (h:Hid (quOne ⟨c,on,⟨a,b,d,st⟩⟩=r)) (w:World) :
  Calls Tryz.prog 163 #[.agg #[.string ⟨c.toArray⟩,.bool on,.int .i64 a,.int .i64 b,.int .i64 d,.string ⟨st.toArray⟩]] w fun e w' => e=.returned (.bool r)∧Below w.heap.size w w':=by
 have h:=h.out
 unfold quOne at h
 simp only at h
 cases hi:idIs c with
 | false =>
  rw [hi,Bool.false_and] at h
  subst h
  exact quone_is c st on a b d hc hi w
 | true =>
  rw [hi,Bool.true_and] at h
  cases on with
  | true =>
   rw [if_pos rfl] at h
   exact quone_on c st a b d hc hs hi h w
  | false =>
   rw [if_neg (by simp)] at h
   exact quone_off c st a b d hc hi h w

theorem rquone_is (c st:List UInt8) (on:Bool) (a b d:Int) (hc:c.length≤4294967296) (h:idIs c=false) (w:World) :
  Calls Tryz.prog 88 #[.agg #[.string ⟨c.toArray⟩,.bool on,.int .i64 a,.int .i64 b,.int .i64 d,.string ⟨st.toArray⟩]] w fun e w' => e=.returned (.bool false)∧Below w.heap.size w w':=by
 have b0:=bl_newZ w (.cells #[.string ⟨c.toArray⟩,.bool on,.int .i64 a,.int .i64 b,.int .i64 d,.string ⟨st.toArray⟩] 105)
 have HB:=hZq b0
 have C:Hid (Cells6 (w.alloc (.cells #[.string ⟨c.toArray⟩,.bool on,.int .i64 a,.int .i64 b,.int .i64 d,.string ⟨st.toArray⟩] 105)) w.heap.size 0 ⟨c,on,⟨a,b,d,st⟩⟩):=hZq (six_new w _ _ _ _ _ _ _)
 have hlt:=Nat.lt_succ_self w.heap.size
 clear b0
 have HH:=hZq h
 clear h
 go_enter Tryz.func88,Tryz.ntmps88
 go_wp2_with fail
 refine (ris_eq c hc HH _).mono ?_
 rintro e w1 ⟨rfl,rfl⟩
 go_wp2_with fail
 go_ret
 exact⟨rfl,HB.out⟩

theorem rquone_on (c st:List UInt8) (a b d:Int) (hc:c.length≤4294967296) (hs:st.length≤4294967296) (h:idIs c=true) {r:Bool} (hr:vaMay ⟨a,b,d,st⟩=r) (w:World) :
  Calls Tryz.prog 88 #[.agg #[.string ⟨c.toArray⟩,.bool true,.int .i64 a,.int .i64 b,.int .i64 d,.string ⟨st.toArray⟩]] w fun e w' => e=.returned (.bool r)∧Below w.heap.size w w':=by
 have b0:=bl_newZ w (.cells #[.string ⟨c.toArray⟩,.bool true,.int .i64 a,.int .i64 b,.int .i64 d,.string ⟨st.toArray⟩] 105)
 have HB:=hZq b0
 have C:Hid (Cells6 (w.alloc (.cells #[.string ⟨c.toArray⟩,.bool true,.int .i64 a,.int .i64 b,.int .i64 d,.string ⟨st.toArray⟩] 105)) w.heap.size 0 ⟨c,true,⟨a,b,d,st⟩⟩):=hZq (six_new w _ _ _ _ _ _ _)
 have hlt:=Nat.lt_succ_self w.heap.size
 clear b0
 have HH:=hZq h
 have HR:=hZq hr
 clear h hr
 go_enter Tryz.func88,Tryz.ntmps88
 go_wp2_with fail
 refine (ris_eq c hc HH _).mono ?_
 rintro e w1 ⟨rfl,rfl⟩
 go_wp2_with fail
 refine (rmay_eq a b d st hs HR _).mono ?_
 rintro e w2 ⟨rfl,b2⟩
 replace HB:=hZq (below2Z HB.out b2)
 clear b2
 go_wp2_with fail
 go_ret
 exact⟨rfl,HB.out⟩

theorem rquone_off (c st:List UInt8) (a b d:Int) (hc:c.length≤4294967296) (h:idIs c=true) {r:Bool} (hr:vSame ⟨a,b,d,st⟩ Val.zero=r) (w:World) :
  Calls Tryz.prog 88 #[.agg #[.string ⟨c.toArray⟩,.bool false,.int .i64 a,.int .i64 b,.int .i64 d,.string ⟨st.toArray⟩]] w fun e w' => e=.returned (.bool r)∧Below w.heap.size w w':=by
 have b0:=bl_newZ w (.cells #[.string ⟨c.toArray⟩,.bool false,.int .i64 a,.int .i64 b,.int .i64 d,.string ⟨st.toArray⟩] 105)
 have HB:=hZq b0
 have C:Hid (Cells6 (w.alloc (.cells #[.string ⟨c.toArray⟩,.bool false,.int .i64 a,.int .i64 b,.int .i64 d,.string ⟨st.toArray⟩] 105)) w.heap.size 0 ⟨c,false,⟨a,b,d,st⟩⟩):=hZq (six_new w _ _ _ _ _ _ _)
 have hlt:=Nat.lt_succ_self w.heap.size
 clear b0
 have HH:=hZq h
 have heq:=fun w => zero_eql a b d st hr w
 have hgd:Tryz.prog.eqGuardType Tryz.prog.depth 53=false:=by kernel_rfl
 clear h hr
 go_enter Tryz.func88,Tryz.ntmps88
 go_wp2_with fail
 refine (ris_eq c hc HH _).mono ?_
 rintro e w1 ⟨rfl,rfl⟩
 go_wp2_with fail
 go_ret
 exact⟨rfl,HB.out⟩

theorem rquone_any (c st:List UInt8) (on:Bool) (a b d:Int) (hc:c.length≤4294967296) (hs:st.length≤4294967296) {r:Bool} (h:Hid (quOne ⟨c,on,⟨a,b,d,st⟩⟩=r)) (w:World) :
  Calls Tryz.prog 88 #[.agg #[.string ⟨c.toArray⟩,.bool on,.int .i64 a,.int .i64 b,.int .i64 d,.string ⟨st.toArray⟩]] w fun e w' => e=.returned (.bool r)∧Below w.heap.size w w':=by
 have h:=h.out
 unfold quOne at h
 simp only at h
 cases hi:idIs c with
 | false =>
  rw [hi,Bool.false_and] at h
  subst h
  exact rquone_is c st on a b d hc hi w
 | true =>
  rw [hi,Bool.true_and] at h
  cases on with
  | true =>
   rw [if_pos rfl] at h
   exact rquone_on c st a b d hc hs hi h w
  | false =>
   rw [if_neg (by simp)] at h
   exact rquone_off c st a b d hc hi h w

end Go.Proofs.YtmpigdokghngiaaGreat
end

section
namespace Go.Proofs.YtmpigdokghngiaaGreat
open Go.RowKit

theorem rgM {P:Program} {f:FuncId} {args:Array Value} {v:Value} {w:World} (h:∀ w',Below w.heap.size w w'→Calls P f args w' fun e w'' => e=.returned v∧Below w'.heap.size w' w'') (d:Nat) (os:Array Obj) :
  Calls P f args (Sort.grow (redrawn w d) os) fun e w'' => e=.returned v∧∃ p:Regrown,w''=Sort.grow (redrawn w p.d) p.os:=Calls.regrown_of (h _ (below_regrown w d os))

end Go.Proofs.YtmpigdokghngiaaGreat
end

section
namespace Go.Proofs.YtmpigdokghngiaaGreat
open Go.RowKit

theorem chg_take {l:List Chg} {k:Nat} (hk:k < l.length):(l.map (·.c)).take (k+1)=(l.map (·.c)).take k ++ [(l.getD k Chg.zero).c]:=by
 rw [List.take_add_one,List.getElem?_map,List.getElem?_eq_getElem hk,List.getD_eq_getElem?_getD,List.getElem?_eq_getElem hk]
 rfl

def ctcAt (l:List Chg) (k:Nat):List (List UInt8):=(l.map (·.c)).take k ++ List.replicate (l.length - k) []
theorem ctcAt_len {l:List Chg} {k:Nat} (h:k≤l.length):(ctcAt l k).length=l.length:=by unfold ctcAt; rw [List.length_append,List.length_take,List.length_map,List.length_replicate]; omega
theorem ctcAt_set {l:List Chg} {k:Nat} (hk:k < l.length):(ctcAt l k).set k (l.getD k Chg.zero).c=ctcAt l (k+1):=by
 unfold ctcAt
 have h1:((l.map (·.c)).take k).length=k:=by rw [List.length_take,List.length_map]; omega
 rw [List.set_append_right _ _ (by omega),h1,Nat.sub_self,show l.length - k=(l.length - (k+1))+1 by omega,List.replicate_succ,List.set_cons_zero,chg_take hk]
 simp
theorem ctcAt_end (l:List Chg):ctcAt l l.length=l.map (·.c):=by
 unfold ctcAt
 rw [Nat.sub_self,List.take_of_length_le (by rw [List.length_map]; omega)]
 simp

theorem qumay_long {l:List Chg} {la:Bool} {room:Int} (h:room < (l.length:Int)):quMay ⟨l,la⟩ room=false:=by
 rw [Bool.eq_false_iff]
 intro e
 have:=(quMay_iff.1 e).1
 simp only at this
 omega
theorem qumay_la {l:List Chg} {room:Int} (h:0 < l.length):quMay ⟨l,true⟩ room=false:=by
 rw [Bool.eq_false_iff]
 intro e
 have:=(quMay_iff.1 e).2.1 rfl
 simp only at this
 rw [this] at h
 simp at h
theorem qumay_one {l:List Chg} {la:Bool} {room:Int} {k:Nat} (hk:k < l.length) (h:quOne (l.getD k Chg.zero)=false):quMay ⟨l,la⟩ room=false:=by
 rw [Bool.eq_false_iff]
 intro e
 have:=(quMay_iff.1 e).2.2.1 _ (List.getElem_mem hk)
 rw [List.getD_eq_getElem?_getD,List.getElem?_eq_getElem hk] at h
 simp only [Option.getD_some] at h
 rw [h] at this
 cases this
theorem qumay_at {l:List Chg} {la:Bool} {room:Int} {k:Nat} (hk:k < l.length) (h:¬ quAt l (l.getD k Chg.zero).c=k):quMay ⟨l,la⟩ room=false:=by
 rw [Bool.eq_false_iff]
 intro e
 exact h (quAt_own (quMay_iff.1 e).2.2.2 hk)
theorem qumay_end {l:List Chg} {la:Bool} {room:Int} (h1:(l.length:Int)≤room) (h2:la=true→l=[]) (h3:∀ i,i < l.length→quOne (l.getD i Chg.zero)=true):quMay ⟨l,la⟩ room=decide (quNo2 l):=by
 rw [Bool.eq_iff_iff,quMay_iff,decide_eq_true_eq]
 refine ⟨fun h => h.2.2.2,fun h => ⟨h1,h2,fun c hc => ?_,h⟩⟩
 obtain⟨i,hi,rfl⟩:=List.getElem_of_mem hc
 have:=h3 i hi
 rwa [List.getD_eq_getElem?_getD,List.getElem?_eq_getElem hi] at this
theorem qumay_ends {l:List Chg} {la:Bool} {room:Int} (h1:(l.length:Int)≤room) (h2:la=true→l=[]) (h3:∀ i,i < l.length→quOne (l.getD i Chg.zero)=true) (h4:∀ i,i < l.length→quAt l (l.getD i Chg.zero).c=i):quMay ⟨l,la⟩ room=true:=by
 rw [qumay_end h1 h2 h3,decide_eq_true_eq]
 exact quNo2_iff.2 h4

theorem queach_any {w:World} {v:Value} {l:List Chg} (hv:Chgs w v l) (hl:l.length≤100) :
  Calls Tryz.prog 164 #[v] w fun e w' => e=.returned (.bool (decide (quNo2 l)))∧Below w.heap.size w w':=by
 have HV:=hZq hv
 obtain⟨a,cap,rfl,_⟩:=hv.open'
 obtain⟨r,hr⟩ : ∃ r,decide (quNo2 l)=r:=⟨_,rfl⟩
 rw [hr]
 have HRR:=hZq hr
 clear hv hr
 go_enter Tryz.func164,Tryz.ntmps164
 go_wp2_with (at_make; go_must (refine wpList_make_texts rfl _ _ rfl _ _ l.length rfl rfl (by omega) (by omega) (by omega) ?_))
 intro w1 h1 hb1 hz1
 have R1:Hid (RowT w1 w.heap.size (ctcAt l 0)):=by show RowT _ _ _; simpa [ctcAt] using h1
 have B1:=hZq hb1
 clear h1 hb1
 go_wp2_with fail
 go_loopw [11] (fun i wr => ∃ k:Nat,k≤l.length∧i=.int .i64 k∧Hid (RowT wr w.heap.size (ctcAt l k))∧Hid (Below w.heap.size w wr)∧w.heap.size < wr.heap.size) (fun i _ => l.length - (intOf i).toNat)
 case atStart => exact⟨0,by omega,rfl,R1,B1,hz1⟩
 case round =>
  clear R1 B1 hz1
  obtain⟨k,hk,rfl,HR,HN,hz⟩:=hrel
  by_cases hlt:k < l.length
  ·obtain⟨b,off,rfl,h0,h1,h2,h3,h4,h5⟩:=HV.out.row HN.out k hlt
   have HS:=HR.out.set k (l.getD k Chg.zero).c (by rw [ctcAt_len (by omega)]; exact hlt)
   rw [ctcAt_set hlt] at HS
   have hc0:=(HR.out k (by rw [ctcAt_len (by omega)]; exact hlt)).1
   have hf0:=(HR.out k (by rw [ctcAt_len (by omega)]; exact hlt)).2
   obtain⟨⟨c,o,⟨x,y,z,st⟩⟩,hr⟩ : ∃ r,l.getD k Chg.zero=r:=⟨_,rfl⟩
   rw [hr] at h0 h1 h2 h3 h4 h5 HS
   simp only at h0 h1 h2 h3 h4 h5 HS
   unfold encS at HS hc0
   have HS2:=hZq HS
   have HN2:Hid (Below w.heap.size w (wr.setCell ⟨w.heap.size,k,none⟩ (.string ⟨c.toArray⟩))):=HN.out.setCell (Nat.le_refl _) _
   have hz2:w.heap.size < (wr.setCell ⟨w.heap.size,k,none⟩ (.string ⟨c.toArray⟩)).heap.size:=by simpa using hz
   have HS3:=hZq (HS2.out.later hz2 ((Below.refl _ _).alloc (Nat.le_refl _) (.cells #[.string ⟨c.toArray⟩,.bool o,.int .i64 x,.int .i64 y,.int .i64 z,.string ⟨st.toArray⟩] 105)))
   have HN3:=hZq (bl_alloc HN2.out (.cells #[.string ⟨c.toArray⟩,.bool o,.int .i64 x,.int .i64 y,.int .i64 z,.string ⟨st.toArray⟩] 105))
   clear hr HS
   go_wp2_with fail
   go_roundw
   case rel => exact⟨k+1,by omega,by go_num,HS3,HN3,by simp; omega⟩
   case measure => simp [intOf]; omega
  ·obtain rfl:k=l.length:=by omega
   have HT:Hid (Texts wr (.slice (some ⟨w.heap.size,0,none⟩) l.length l.length) (l.map (·.c))):=by
    show Texts _ _ _
    have:=HR.out
    rw [ctcAt_end] at this
    have h2:=this.texts hz (by rw [List.length_map]; omega)
    rwa [List.length_map] at h2
   have HF:Hid (decide (((mrg (l.map (·.c) ++ [])).length:Int)=(l.length:Int))=r):=by
    show _=_
    rw [← HRR.out,List.append_nil,decide_eq_decide]
    have:=mrg_full (l.map (·.c))
    rw [List.length_map] at this
    unfold quNo2
    rw [← this]
    omega
   go_wp2_with fail
   refine (merge_any HT.out (texts_nil _) (by rw [List.length_map]; exact hl) (by simp)).mono ?_
   rintro e w2 ⟨u,rfl,ht,b2⟩
   obtain⟨au,cu,rfl⟩ : ∃ a c,u=.slice a (mrg (l.map (·.c) ++ [])).length c:=by
    obtain⟨a',c',e,_⟩:=ht
    exact⟨a',c',e⟩
   have HN2:=hZq (HN.out.trans (b2.mono HN.out.size))
   obtain⟨m,hm⟩ : ∃ m,(mrg (l.map (·.c) ++ [])).length=m:=⟨_,rfl⟩
   rw [hm] at HF
   try rw [hm]
   clear b2 ht hm
   have ht1:=HF.out
   have t2:(((m:Nat):Int) == (l.length:Int))=r:=by rw [← ht1]; rfl
   clear HF ht1
   go_wp2_with fail
   go_ret
   first | exact⟨rfl,HN2.out⟩ | exact⟨by rw [← t2]; rfl,HN2.out⟩

theorem qumay_1 {w:World} {v:Value} {l:List Chg} (hv:Chgs w v l) (la:Bool) {room:Int} (h:room < (l.length:Int)) :
  Calls Tryz.prog 147 #[.agg #[v,.bool la],.int .i64 room] w fun e w' => e=.returned (.bool false)∧Below w.heap.size w w':=by
 obtain⟨ao,cap,rfl,hmx⟩:=hv.open'
 have b0:=bl_newZ w (.cells #[.slice ao l.length cap,.bool la] 26)
 have HV:=hZq (hv.later b0)
 have HB:=hZq b0
 have HQ:=hZq ((MapKept.heap_alloc w (.cells #[.slice ao l.length cap,.bool la] 26)).1)
 clear hv b0
 have t1:decide (room < (l.length:Int))=true:=decide_eq_true h
 go_enter Tryz.func147,Tryz.ntmps147
 go_wp2_with fail
 go_ret
 exact⟨rfl,HB.out⟩

theorem qumay_2 {w:World} {v:Value} {l:List Chg} (hv:Chgs w v l) {room:Int} (h:¬ room < (l.length:Int)) (h0:0 < l.length) :
  Calls Tryz.prog 147 #[.agg #[v,.bool true],.int .i64 room] w fun e w' => e=.returned (.bool false)∧Below w.heap.size w w':=by
 obtain⟨ao,cap,rfl,hmx⟩:=hv.open'
 have b0:=bl_newZ w (.cells #[.slice ao l.length cap,.bool true] 26)
 have HV:=hZq (hv.later b0)
 have HB:=hZq b0
 have HQ:=hZq ((MapKept.heap_alloc w (.cells #[.slice ao l.length cap,.bool true] 26)).1)
 clear hv b0
 have t1:decide (room < (l.length:Int))=false:=decide_eq_false h
 have t2:decide ((0:Int) < (l.length:Int))=true:=decide_eq_true (by omega)
 have t3:decide (0 < l.length)=true:=decide_eq_true h0
 clear h
 go_enter Tryz.func147,Tryz.ntmps147
 go_wp2_with fail
 go_ret
 exact⟨rfl,HB.out⟩

theorem qumay_3 {w:World} {v:Value} {l:List Chg} (hv:Chgs w v l) (hs:ShortC l) (hl:l.length≤100) {room:Int} (h:¬ room < (l.length:Int)) :
  Calls Tryz.prog 147 #[.agg #[v,.bool false],.int .i64 room] w fun e w' => e=.returned (.bool (quMay ⟨l,false⟩ room))∧Below w.heap.size w w':=by
 obtain⟨ao,cap,rfl,hmx⟩:=hv.open'
 have b0:=bl_newZ w (.cells #[.slice ao l.length cap,.bool false] 26)
 have HV:=hZq (hv.later b0)
 have HB:=hZq b0
 have HQ:=hZq ((MapKept.heap_alloc w (.cells #[.slice ao l.length cap,.bool false] 26)).1)
 clear hv b0
 have t1:decide (room < (l.length:Int))=false:=decide_eq_false h
 have HR:Hid ((l.length:Int)≤room):=hZq (by omega)
 have HS:=hZq hs
 clear h hs
 go_enter Tryz.func147,Tryz.ntmps147
 go_wp2_with fail
 clear t1
 go_loopw [25] (fun i wr => ∃ k:Nat,k≤l.length∧i=.int .i64 k∧Hid (Below (w.alloc (.cells #[.slice ao l.length cap,.bool false] 26)).heap.size (w.alloc (.cells #[.slice ao l.length cap,.bool false] 26)) wr)∧Hid (∀ i,i < k→quOne (l.getD i Chg.zero)=true)) (fun i _ => l.length - (intOf i).toNat)
 case atStart => exact⟨0,by omega,rfl,Below.refl _ _,fun i hi => by omega⟩
 case round =>
  obtain⟨k,hk,rfl,HN,HA⟩:=hrel
  by_cases hlt:k < l.length
  ·obtain⟨b,off,rfl,h0,h1,h2,h3,h4,h5⟩:=HV.out.row HN.out k hlt
   have hx:=(HN.out.block w.heap.size (by simp)).trans HQ.out
   have q0:=cell_of_row wr w.heap.size 0 _ _ (0,0) hx
   have q1:=cell_of_row wr w.heap.size 1 _ _ (0,0) hx
   try simp only at q0 q1
   obtain⟨hl1,hl2⟩:=HS.out.get hlt
   obtain⟨⟨c,o,⟨x,y,z,st⟩⟩,hr⟩ : ∃ r,l.getD k Chg.zero=r:=⟨_,rfl⟩
   rw [hr] at h0 h1 h2 h3 h4 h5 hl1 hl2
   simp only at h0 h1 h2 h3 h4 h5 hl1 hl2
   have HRr:=hZq hr
   clear hr
   cases hone:quOne ⟨c,o,⟨x,y,z,st⟩⟩ with
   | false =>
    have HF:Hid (quMay ⟨l,false⟩ room=false):=qumay_one hlt (by rw [HRr.out]; exact hone)
    have H1:=hZq hone
    clear hone
    go_wp2_with fail
    refine (quone_any c st o x y z hl1 hl2 H1 _).mono ?_
    rintro e w2 ⟨rfl,b2⟩
    have HN2:=hZq ((below2Z HN.out (bl_newZ wr (.cells #[.string ⟨c.toArray⟩,.bool o,.int .i64 x,.int .i64 y,.int .i64 z,.string ⟨st.toArray⟩] 105))).trans (b2.mono (Nat.le_trans HN.out.size (by simp))))
    clear b2
    go_wp2_with fail
    go_ret
    exact⟨by rw [HF.out]; rfl,below2Z HB.out HN2.out⟩
   | true =>
    have H1:=hZq hone
    have HA2:Hid (∀ i,i < k+1→quOne (l.getD i Chg.zero)=true):=hZq fun i hi => by
     rcases Nat.lt_or_eq_of_le (Nat.le_of_lt_succ hi) with h | h
     ·exact HA.out i h
     ·subst h; rw [HRr.out]; exact hone
    clear hone
    go_wp2_with fail
    refine (quone_any c st o x y z hl1 hl2 H1 _).mono ?_
    rintro e w2 ⟨rfl,b2⟩
    have HN2:=hZq ((below2Z HN.out (bl_newZ wr (.cells #[.string ⟨c.toArray⟩,.bool o,.int .i64 x,.int .i64 y,.int .i64 z,.string ⟨st.toArray⟩] 105))).trans (b2.mono (Nat.le_trans HN.out.size (by simp))))
    clear b2
    go_wp2_with fail
    go_roundw
    case rel => exact⟨k+1,by omega,by go_num,HN2,HA2⟩
    case measure => simp [intOf]; omega
  ·obtain rfl:k=l.length:=by omega
   have hx:=(HN.out.block w.heap.size (by simp)).trans HQ.out
   have q0:=cell_of_row wr w.heap.size 0 _ _ (0,0) hx
   have q1:=cell_of_row wr w.heap.size 1 _ _ (0,0) hx
   try simp only at q0 q1
   have HF:Hid (quMay ⟨l,false⟩ room=decide (quNo2 l)):=qumay_end HR.out (fun e => by cases e) HA.out
   go_wp2_with fail
   refine (queach_any (HV.out.later HN.out) hl).mono ?_
   rintro e w2 ⟨rfl,b2⟩
   have HN2:=hZq (HN.out.trans (b2.mono HN.out.size))
   clear b2
   go_wp2_with fail
   go_ret
   exact⟨by rw [HF.out]; rfl,below2Z HB.out HN2.out⟩

theorem qumay_4 {w:World} {v:Value} {l:List Chg} (hv:Chgs w v l) (hs:ShortC l) (hl:l.length≤100) {room:Int} (h:¬ room < (l.length:Int)) (h0:l=[]) :
  Calls Tryz.prog 147 #[.agg #[v,.bool true],.int .i64 room] w fun e w' => e=.returned (.bool (quMay ⟨l,true⟩ room))∧Below w.heap.size w w':=by
 obtain⟨ao,cap,rfl,hmx⟩:=hv.open'
 have b0:=bl_newZ w (.cells #[.slice ao l.length cap,.bool true] 26)
 have HV:=hZq (hv.later b0)
 have HB:=hZq b0
 have HQ:=hZq ((MapKept.heap_alloc w (.cells #[.slice ao l.length cap,.bool true] 26)).1)
 clear hv b0
 have t1:decide (room < (l.length:Int))=false:=decide_eq_false h
 have t2:decide ((0:Int) < (l.length:Int))=false:=decide_eq_false (by rw [h0]; simp)
 have t3:decide (0 < l.length)=false:=decide_eq_false (by rw [h0]; simp)
 have HE:=hZq h0
 clear h0
 have HR:Hid ((l.length:Int)≤room):=hZq (by omega)
 have HS:=hZq hs
 clear h hs
 go_enter Tryz.func147,Tryz.ntmps147
 go_wp2_with fail
 clear t1 t2 t3
 go_loopw [25] (fun i wr => ∃ k:Nat,k≤l.length∧i=.int .i64 k∧Hid (Below (w.alloc (.cells #[.slice ao l.length cap,.bool true] 26)).heap.size (w.alloc (.cells #[.slice ao l.length cap,.bool true] 26)) wr)∧Hid (∀ i,i < k→quOne (l.getD i Chg.zero)=true)) (fun i _ => l.length - (intOf i).toNat)
 case atStart => exact⟨0,by omega,rfl,Below.refl _ _,fun i hi => by omega⟩
 case round =>
  obtain⟨k,hk,rfl,HN,HA⟩:=hrel
  by_cases hlt:k < l.length
  ·obtain⟨b,off,rfl,h0,h1,h2,h3,h4,h5⟩:=HV.out.row HN.out k hlt
   have hx:=(HN.out.block w.heap.size (by simp)).trans HQ.out
   have q0:=cell_of_row wr w.heap.size 0 _ _ (0,0) hx
   have q1:=cell_of_row wr w.heap.size 1 _ _ (0,0) hx
   try simp only at q0 q1
   obtain⟨hl1,hl2⟩:=HS.out.get hlt
   obtain⟨⟨c,o,⟨x,y,z,st⟩⟩,hr⟩ : ∃ r,l.getD k Chg.zero=r:=⟨_,rfl⟩
   rw [hr] at h0 h1 h2 h3 h4 h5 hl1 hl2
   simp only at h0 h1 h2 h3 h4 h5 hl1 hl2
   have HRr:=hZq hr
   clear hr
   cases hone:quOne ⟨c,o,⟨x,y,z,st⟩⟩ with
   | false =>
    have HF:Hid (quMay ⟨l,true⟩ room=false):=qumay_one hlt (by rw [HRr.out]; exact hone)
    have H1:=hZq hone
    clear hone
    go_wp2_with fail
    refine (quone_any c st o x y z hl1 hl2 H1 _).mono ?_
    rintro e w2 ⟨rfl,b2⟩
    have HN2:=hZq ((below2Z HN.out (bl_newZ wr (.cells #[.string ⟨c.toArray⟩,.bool o,.int .i64 x,.int .i64 y,.int .i64 z,.string ⟨st.toArray⟩] 105))).trans (b2.mono (Nat.le_trans HN.out.size (by simp))))
    clear b2
    go_wp2_with fail
    go_ret
    exact⟨by rw [HF.out]; rfl,below2Z HB.out HN2.out⟩
   | true =>
    have H1:=hZq hone
    have HA2:Hid (∀ i,i < k+1→quOne (l.getD i Chg.zero)=true):=hZq fun i hi => by
     rcases Nat.lt_or_eq_of_le (Nat.le_of_lt_succ hi) with h | h
     ·exact HA.out i h
     ·subst h; rw [HRr.out]; exact hone
    clear hone
    go_wp2_with fail
    refine (quone_any c st o x y z hl1 hl2 H1 _).mono ?_
    rintro e w2 ⟨rfl,b2⟩
    have HN2:=hZq ((below2Z HN.out (bl_newZ wr (.cells #[.string ⟨c.toArray⟩,.bool o,.int .i64 x,.int .i64 y,.int .i64 z,.string ⟨st.toArray⟩] 105))).trans (b2.mono (Nat.le_trans HN.out.size (by simp))))
    clear b2
    go_wp2_with fail
    go_roundw
    case rel => exact⟨k+1,by omega,by go_num,HN2,HA2⟩
    case measure => simp [intOf]; omega
  ·obtain rfl:k=l.length:=by omega
   have hx:=(HN.out.block w.heap.size (by simp)).trans HQ.out
   have q0:=cell_of_row wr w.heap.size 0 _ _ (0,0) hx
   have q1:=cell_of_row wr w.heap.size 1 _ _ (0,0) hx
   try simp only at q0 q1
   have HF:Hid (quMay ⟨l,true⟩ room=decide (quNo2 l)):=qumay_end HR.out (fun _ => HE.out) HA.out
   go_wp2_with fail
   refine (queach_any (HV.out.later HN.out) hl).mono ?_
   rintro e w2 ⟨rfl,b2⟩
   have HN2:=hZq (HN.out.trans (b2.mono HN.out.size))
   clear b2
   go_wp2_with fail
   go_ret
   exact⟨by rw [HF.out]; rfl,below2Z HB.out HN2.out⟩

theorem qumay_any {w:World} {v:Value} {l:List Chg} (hv:Chgs w v l) (hs:ShortC l) (hl:l.length≤100) (la:Bool) {room:Int} {r:Bool} (h:Hid (quMay ⟨l,la⟩ room=r)) :
  Calls Tryz.prog 147 #[.agg #[v,.bool la],.int .i64 room] w fun e w' => e=.returned (.bool r)∧Below w.heap.size w w':=by
 rw [← h.out]
 by_cases h1:room < (l.length:Int)
 ·rw [qumay_long h1]
  exact qumay_1 hv la h1
 ·cases la with
  | false => exact qumay_3 hv hs hl h1
  | true =>
   by_cases h0:0 < l.length
   ·rw [qumay_la h0]
    exact qumay_2 hv h1 h0
   ·exact qumay_4 hv hs hl h1 (List.length_eq_zero_iff.1 (by omega))

theorem rqumay_1 {w:World} {v:Value} {l:List Chg} (hv:Chgs w v l) (la:Bool) {room:Int} (h:room < (l.length:Int)) :
  Calls Tryz.prog 58 #[.agg #[v,.bool la],.int .i64 room] w fun e w' => e=.returned (.bool false)∧Below w.heap.size w w':=by
 obtain⟨ao,cap,rfl,hmx⟩:=hv.open'
 have b0:=bl_newZ w (.cells #[.slice ao l.length cap,.bool la] 26)
 have HV:=hZq (hv.later b0)
 have HB:=hZq b0
 have HQ:=hZq ((MapKept.heap_alloc w (.cells #[.slice ao l.length cap,.bool la] 26)).1)
 clear hv b0
 have t1:decide (room < (l.length:Int))=true:=decide_eq_true h
 go_enter Tryz.func58,Tryz.ntmps58
 go_wp2_with fail
 go_ret
 exact⟨rfl,HB.out⟩

theorem rqumay_2 {w:World} {v:Value} {l:List Chg} (hv:Chgs w v l) {room:Int} (h:¬ room < (l.length:Int)) (h0:0 < l.length) :
  Calls Tryz.prog 58 #[.agg #[v,.bool true],.int .i64 room] w fun e w' => e=.returned (.bool false)∧Below w.heap.size w w':=by
 obtain⟨ao,cap,rfl,hmx⟩:=hv.open'
 have b0:=bl_newZ w (.cells #[.slice ao l.length cap,.bool true] 26)
 have HV:=hZq (hv.later b0)
 have HB:=hZq b0
 have HQ:=hZq ((MapKept.heap_alloc w (.cells #[.slice ao l.length cap,.bool true] 26)).1)
 clear hv b0
 have t1:decide (room < (l.length:Int))=false:=decide_eq_false h
 have t2:decide ((0:Int) < (l.length:Int))=true:=decide_eq_true (by omega)
 have t3:decide (0 < l.length)=true:=decide_eq_true h0
 clear h
 go_enter Tryz.func58,Tryz.ntmps58
 go_wp2_with fail
 go_ret
 exact⟨rfl,HB.out⟩

theorem rqumay_3 {w:World} {v:Value} {l:List Chg} (hv:Chgs w v l) (hs:ShortC l) (hl:l.length≤100) {room:Int} (h:¬ room < (l.length:Int)) :
  Calls Tryz.prog 58 #[.agg #[v,.bool false],.int .i64 room] w fun e w' => e=.returned (.bool (quMay ⟨l,false⟩ room))∧Below w.heap.size w w':=by
 obtain⟨ao,cap,rfl,hmx⟩:=hv.open'
 have b0:=bl_newZ w (.cells #[.slice ao l.length cap,.bool false] 26)
 have HV:=hZq (hv.later b0)
 have HB:=hZq b0
 have HQ:=hZq ((MapKept.heap_alloc w (.cells #[.slice ao l.length cap,.bool false] 26)).1)
 clear hv b0
 have t1:decide (room < (l.length:Int))=false:=decide_eq_false h
 have HR:Hid ((l.length:Int)≤room):=hZq (by omega)
 have HS:=hZq hs
 clear h hs
 go_enter Tryz.func58,Tryz.ntmps58
 go_wp2_with fail
 clear t1
 go_loopw [5] (fun i wr => ∃ k:Nat,k≤l.length∧i=.int .i64 k∧Hid (Below (w.alloc (.cells #[.slice ao l.length cap,.bool false] 26)).heap.size (w.alloc (.cells #[.slice ao l.length cap,.bool false] 26)) wr)∧Hid (∀ i,i < k→quOne (l.getD i Chg.zero)=true∧quAt l (l.getD i Chg.zero).c=i)) (fun i _ => l.length - (intOf i).toNat)
 case atStart => exact⟨0,by omega,rfl,Below.refl _ _,fun i hi => by omega⟩
 case round =>
  obtain⟨k,hk,rfl,HN,HA⟩:=hrel
  by_cases hlt:k < l.length
  ·obtain⟨b,off,rfl,h0,h1,h2,h3,h4,h5⟩:=HV.out.row HN.out k hlt
   have hx:=(HN.out.block w.heap.size (by simp)).trans HQ.out
   have q0:=cell_of_row wr w.heap.size 0 _ _ (0,0) hx
   have q1:=cell_of_row wr w.heap.size 1 _ _ (0,0) hx
   try simp only at q0 q1
   obtain⟨hl1,hl2⟩:=HS.out.get hlt
   obtain⟨⟨c,o,⟨x,y,z,st⟩⟩,hr⟩ : ∃ r,l.getD k Chg.zero=r:=⟨_,rfl⟩
   rw [hr] at h0 h1 h2 h3 h4 h5 hl1 hl2
   simp only at h0 h1 h2 h3 h4 h5 hl1 hl2
   have HRr:=hZq hr
   clear hr
   cases hone:quOne ⟨c,o,⟨x,y,z,st⟩⟩ with
   | false =>
    have HF:Hid (quMay ⟨l,false⟩ room=false):=qumay_one hlt (by rw [HRr.out]; exact hone)
    have H1:=hZq hone
    clear hone
    have HO:=hZq (rquone_any c st o x y z hl1 hl2 H1)
    go_wp2_with fail
    have g0:=cell_regrown h0
    have g1:=cell_regrown h1
    have g2:=cell_regrown h2
    have g3:=cell_regrown h3
    have g4:=cell_regrown h4
    have g5:=cell_regrown h5
    have p0:=cell_regrown q0
    have p1:=cell_regrown q1
    clear h0 h1 h2 h3 h4 h5 q0 q1
    refine wp_region_quiet_below (by kernel_rfl) (by kernel_rfl) ?_
    repeat (go_big_quiet_step (first | with_reducible exact rgB HO.out _ _ _))
    refine wpQuiet_nil ?_
    intro w5 hw5
    have HN5:=hZq (HN.out.trans ((regrown_belowD hw5).mono HN.out.size))
    clear hw5 g0 g1 g2 g3 g4 g5 p0 p1
    go_wp2_with fail
    go_ret
    exact⟨by rw [HF.out]; rfl,below2Z HB.out HN5.out⟩
   | true =>
    have H1:=hZq hone
    have HO:=hZq (rquone_any c st o x y z hl1 hl2 H1)
    have hhas:quHas l c=true:=quHas_iff.2 ⟨l.getD k Chg.zero,by rw [List.getD_eq_getElem?_getD,List.getElem?_eq_getElem hlt]; exact List.getElem_mem hlt,congrArg (·.c) HRr.out⟩
    obtain⟨m,hm⟩ : ∃ m,quAt l c=m:=⟨_,rfl⟩
    have HP:Hid (∀ w',Below wr.heap.size wr w'→Calls Tryz.prog 89 #[.agg #[.slice (some ⟨b,off,none⟩) l.length cap,.bool false],.string ⟨c.toArray⟩] w' fun e w'' => e=.returned (.int .i64 (m:Nat))∧Below w'.heap.size w' w''):=hZq fun w' hb' => by
     rw [← hm]
     exact rquplace_yes ((HV.out.later HN.out).later hb') _ c hhas
    have hne:∀ mm:Nat,(((mm:Int) != (k:Int))=!(decide (mm=k))):=fun mm => by
     rw [Bool.eq_iff_iff]; simp [bne_iff_ne]; omega
    by_cases hmk:m=k
    ·have HA2:Hid (∀ i,i < k+1→quOne (l.getD i Chg.zero)=true∧quAt l (l.getD i Chg.zero).c=i):=hZq fun i hi => by
      rcases Nat.lt_or_eq_of_le (Nat.le_of_lt_succ hi) with h | h
      ·exact HA.out i h
      ·subst h; rw [HRr.out]; exact⟨hone,by rw [hm,hmk]⟩
     have t7:(((m:Nat):Int) != (k:Int))=false:=by rw [hne,decide_eq_true hmk]; rfl
     clear hone hm hne hmk
     go_wp2_with fail
     have g0:=cell_regrown h0
     have g1:=cell_regrown h1
     have g2:=cell_regrown h2
     have g3:=cell_regrown h3
     have g4:=cell_regrown h4
     have g5:=cell_regrown h5
     have p0:=cell_regrown q0
     have p1:=cell_regrown q1
     clear h0 h1 h2 h3 h4 h5 q0 q1
     refine wp_region_quiet_below (by kernel_rfl) (by kernel_rfl) ?_
     repeat (go_big_quiet_step (first | with_reducible exact rgB HO.out _ _ _ | with_reducible exact rgM HP.out _ _))
     refine wpQuiet_nil ?_
     intro w5 hw5
     have HN5:=hZq (HN.out.trans ((regrown_belowD hw5).mono HN.out.size))
     clear hw5 g0 g1 g2 g3 g4 g5 p0 p1
     go_wp2_with fail
     go_roundw
     case rel => exact⟨k+1,by omega,by go_num,HN5,HA2⟩
     case measure => simp [intOf]; omega
    ·have HF:Hid (quMay ⟨l,false⟩ room=false):=qumay_at hlt (by rw [HRr.out]; simp only; rw [hm]; exact hmk)
     have t7:(((m:Nat):Int) != (k:Int))=true:=by rw [hne,decide_eq_false hmk]; rfl
     clear hone hm hne hmk
     go_wp2_with fail
     have g0:=cell_regrown h0
     have g1:=cell_regrown h1
     have g2:=cell_regrown h2
     have g3:=cell_regrown h3
     have g4:=cell_regrown h4
     have g5:=cell_regrown h5
     have p0:=cell_regrown q0
     have p1:=cell_regrown q1
     clear h0 h1 h2 h3 h4 h5 q0 q1
     refine wp_region_quiet_below (by kernel_rfl) (by kernel_rfl) ?_
     repeat (go_big_quiet_step (first | with_reducible exact rgB HO.out _ _ _ | with_reducible exact rgM HP.out _ _))
     refine wpQuiet_nil ?_
     intro w5 hw5
     have HN5:=hZq (HN.out.trans ((regrown_belowD hw5).mono HN.out.size))
     clear hw5 g0 g1 g2 g3 g4 g5 p0 p1
     go_wp2_with fail
     go_ret
     exact⟨by rw [HF.out]; rfl,below2Z HB.out HN5.out⟩
  ·obtain rfl:k=l.length:=by omega
   have hx:=(HN.out.block w.heap.size (by simp)).trans HQ.out
   have q0:=cell_of_row wr w.heap.size 0 _ _ (0,0) hx
   have q1:=cell_of_row wr w.heap.size 1 _ _ (0,0) hx
   try simp only at q0 q1
   have HF:Hid (quMay ⟨l,false⟩ room=true):=qumay_ends HR.out (fun e => by cases e) (fun i hi => (HA.out i hi).1) (fun i hi => (HA.out i hi).2)
   go_wp2_with fail
   go_ret
   exact⟨by rw [HF.out]; rfl,below2Z HB.out HN.out⟩

theorem rqumay_4 {w:World} {v:Value} {l:List Chg} (hv:Chgs w v l) (hs:ShortC l) (hl:l.length≤100) {room:Int} (h:¬ room < (l.length:Int)) (h0:l=[]) :
  Calls Tryz.prog 58 #[.agg #[v,.bool true],.int .i64 room] w fun e w' => e=.returned (.bool (quMay ⟨l,true⟩ room))∧Below w.heap.size w w':=by
 obtain⟨ao,cap,rfl,hmx⟩:=hv.open'
 have b0:=bl_newZ w (.cells #[.slice ao l.length cap,.bool true] 26)
 have HV:=hZq (hv.later b0)
 have HB:=hZq b0
 have HQ:=hZq ((MapKept.heap_alloc w (.cells #[.slice ao l.length cap,.bool true] 26)).1)
 clear hv b0
 have t1:decide (room < (l.length:Int))=false:=decide_eq_false h
 have t2:decide ((0:Int) < (l.length:Int))=false:=decide_eq_false (by rw [h0]; simp)
 have t3:decide (0 < l.length)=false:=decide_eq_false (by rw [h0]; simp)
 have HE:=hZq h0
 clear h0
 have HR:Hid ((l.length:Int)≤room):=hZq (by omega)
 have HS:=hZq hs
 clear h hs
 go_enter Tryz.func58,Tryz.ntmps58
 go_wp2_with fail
 clear t1 t2 t3
 go_loopw [5] (fun i wr => ∃ k:Nat,k≤l.length∧i=.int .i64 k∧Hid (Below (w.alloc (.cells #[.slice ao l.length cap,.bool true] 26)).heap.size (w.alloc (.cells #[.slice ao l.length cap,.bool true] 26)) wr)∧Hid (∀ i,i < k→quOne (l.getD i Chg.zero)=true∧quAt l (l.getD i Chg.zero).c=i)) (fun i _ => l.length - (intOf i).toNat)
 case atStart => exact⟨0,by omega,rfl,Below.refl _ _,fun i hi => by omega⟩
 case round =>
  obtain⟨k,hk,rfl,HN,HA⟩:=hrel
  by_cases hlt:k < l.length
  ·obtain⟨b,off,rfl,h0,h1,h2,h3,h4,h5⟩:=HV.out.row HN.out k hlt
   have hx:=(HN.out.block w.heap.size (by simp)).trans HQ.out
   have q0:=cell_of_row wr w.heap.size 0 _ _ (0,0) hx
   have q1:=cell_of_row wr w.heap.size 1 _ _ (0,0) hx
   try simp only at q0 q1
   obtain⟨hl1,hl2⟩:=HS.out.get hlt
   obtain⟨⟨c,o,⟨x,y,z,st⟩⟩,hr⟩ : ∃ r,l.getD k Chg.zero=r:=⟨_,rfl⟩
   rw [hr] at h0 h1 h2 h3 h4 h5 hl1 hl2
   simp only at h0 h1 h2 h3 h4 h5 hl1 hl2
   have HRr:=hZq hr
   clear hr
   cases hone:quOne ⟨c,o,⟨x,y,z,st⟩⟩ with
   | false =>
    have HF:Hid (quMay ⟨l,true⟩ room=false):=qumay_one hlt (by rw [HRr.out]; exact hone)
    have H1:=hZq hone
    clear hone
    have HO:=hZq (rquone_any c st o x y z hl1 hl2 H1)
    go_wp2_with fail
    have g0:=cell_regrown h0
    have g1:=cell_regrown h1
    have g2:=cell_regrown h2
    have g3:=cell_regrown h3
    have g4:=cell_regrown h4
    have g5:=cell_regrown h5
    have p0:=cell_regrown q0
    have p1:=cell_regrown q1
    clear h0 h1 h2 h3 h4 h5 q0 q1
    refine wp_region_quiet_below (by kernel_rfl) (by kernel_rfl) ?_
    repeat (go_big_quiet_step (first | with_reducible exact rgB HO.out _ _ _))
    refine wpQuiet_nil ?_
    intro w5 hw5
    have HN5:=hZq (HN.out.trans ((regrown_belowD hw5).mono HN.out.size))
    clear hw5 g0 g1 g2 g3 g4 g5 p0 p1
    go_wp2_with fail
    go_ret
    exact⟨by rw [HF.out]; rfl,below2Z HB.out HN5.out⟩
   | true =>
    have H1:=hZq hone
    have HO:=hZq (rquone_any c st o x y z hl1 hl2 H1)
    have hhas:quHas l c=true:=quHas_iff.2 ⟨l.getD k Chg.zero,by rw [List.getD_eq_getElem?_getD,List.getElem?_eq_getElem hlt]; exact List.getElem_mem hlt,congrArg (·.c) HRr.out⟩
    obtain⟨m,hm⟩ : ∃ m,quAt l c=m:=⟨_,rfl⟩
    have HP:Hid (∀ w',Below wr.heap.size wr w'→Calls Tryz.prog 89 #[.agg #[.slice (some ⟨b,off,none⟩) l.length cap,.bool true],.string ⟨c.toArray⟩] w' fun e w'' => e=.returned (.int .i64 (m:Nat))∧Below w'.heap.size w' w''):=hZq fun w' hb' => by
     rw [← hm]
     exact rquplace_yes ((HV.out.later HN.out).later hb') _ c hhas
    have hne:∀ mm:Nat,(((mm:Int) != (k:Int))=!(decide (mm=k))):=fun mm => by
     rw [Bool.eq_iff_iff]; simp [bne_iff_ne]; omega
    by_cases hmk:m=k
    ·have HA2:Hid (∀ i,i < k+1→quOne (l.getD i Chg.zero)=true∧quAt l (l.getD i Chg.zero).c=i):=hZq fun i hi => by
      rcases Nat.lt_or_eq_of_le (Nat.le_of_lt_succ hi) with h | h
      ·exact HA.out i h
      ·subst h; rw [HRr.out]; exact⟨hone,by rw [hm,hmk]⟩
     have t7:(((m:Nat):Int) != (k:Int))=false:=by rw [hne,decide_eq_true hmk]; rfl
     clear hone hm hne hmk
     go_wp2_with fail
     have g0:=cell_regrown h0
     have g1:=cell_regrown h1
     have g2:=cell_regrown h2
     have g3:=cell_regrown h3
     have g4:=cell_regrown h4
     have g5:=cell_regrown h5
     have p0:=cell_regrown q0
     have p1:=cell_regrown q1
     clear h0 h1 h2 h3 h4 h5 q0 q1
     refine wp_region_quiet_below (by kernel_rfl) (by kernel_rfl) ?_
     repeat (go_big_quiet_step (first | with_reducible exact rgB HO.out _ _ _ | with_reducible exact rgM HP.out _ _))
     refine wpQuiet_nil ?_
     intro w5 hw5
     have HN5:=hZq (HN.out.trans ((regrown_belowD hw5).mono HN.out.size))
     clear hw5 g0 g1 g2 g3 g4 g5 p0 p1
     go_wp2_with fail
     go_roundw
     case rel => exact⟨k+1,by omega,by go_num,HN5,HA2⟩
     case measure => simp [intOf]; omega
    ·have HF:Hid (quMay ⟨l,true⟩ room=false):=qumay_at hlt (by rw [HRr.out]; simp only; rw [hm]; exact hmk)
     have t7:(((m:Nat):Int) != (k:Int))=true:=by rw [hne,decide_eq_false hmk]; rfl
     clear hone hm hne hmk
     go_wp2_with fail
     have g0:=cell_regrown h0
     have g1:=cell_regrown h1
     have g2:=cell_regrown h2
     have g3:=cell_regrown h3
     have g4:=cell_regrown h4
     have g5:=cell_regrown h5
     have p0:=cell_regrown q0
     have p1:=cell_regrown q1
     clear h0 h1 h2 h3 h4 h5 q0 q1
     refine wp_region_quiet_below (by kernel_rfl) (by kernel_rfl) ?_
     repeat (go_big_quiet_step (first | with_reducible exact rgB HO.out _ _ _ | with_reducible exact rgM HP.out _ _))
     refine wpQuiet_nil ?_
     intro w5 hw5
     have HN5:=hZq (HN.out.trans ((regrown_belowD hw5).mono HN.out.size))
     clear hw5 g0 g1 g2 g3 g4 g5 p0 p1
     go_wp2_with fail
     go_ret
     exact⟨by rw [HF.out]; rfl,below2Z HB.out HN5.out⟩
  ·obtain rfl:k=l.length:=by omega
   have hx:=(HN.out.block w.heap.size (by simp)).trans HQ.out
   have q0:=cell_of_row wr w.heap.size 0 _ _ (0,0) hx
   have q1:=cell_of_row wr w.heap.size 1 _ _ (0,0) hx
   try simp only at q0 q1
   have HF:Hid (quMay ⟨l,true⟩ room=true):=qumay_ends HR.out (fun _ => HE.out) (fun i hi => (HA.out i hi).1) (fun i hi => (HA.out i hi).2)
   go_wp2_with fail
   go_ret
   exact⟨by rw [HF.out]; rfl,below2Z HB.out HN.out⟩

theorem rqumay_any {w:World} {v:Value} {l:List Chg} (hv:Chgs w v l) (hs:ShortC l) (hl:l.length≤100) (la:Bool) {room:Int} {r:Bool} (h:Hid (quMay ⟨l,la⟩ room=r)) :
  Calls Tryz.prog 58 #[.agg #[v,.bool la],.int .i64 room] w fun e w' => e=.returned (.bool r)∧Below w.heap.size w w':=by
 rw [← h.out]
 by_cases h1:room < (l.length:Int)
 ·rw [qumay_long h1]
  exact rqumay_1 hv la h1
 ·cases la with
  | false => exact rqumay_3 hv hs hl h1
  | true =>
   by_cases h0:0 < l.length
   ·rw [qumay_la h0]
    exact rqumay_2 hv h1 h0
   ·exact rqumay_4 hv hs hl h1 (List.length_eq_zero_iff.1 (by omega))

theorem quempty_any {w:World} {v:Value} {l:List Chg} (hv:Chgs w v l) (la:Bool) {r:Bool} (h:Hid (quEmpty ⟨l,la⟩=r)) :
  Calls Tryz.prog 64 #[.agg #[v,.bool la]] w fun e w' => e=.returned (.bool r)∧Below w.heap.size w w':=by
 obtain⟨ao,cap,rfl,hmx⟩:=hv.open'
 have h:=h.out
 unfold quEmpty at h
 simp only at h
 have HB:=hZq (bl_newZ w (.cells #[.slice ao l.length cap,.bool la] 26))
 by_cases h0:l.length=0
 ·have t1:((l.length:Int) == 0)=true:=by rw [h0]; rfl
  rw [decide_eq_true h0,Bool.true_and] at h
  subst h
  clear h0 hv
  go_enter Tryz.func64,Tryz.ntmps64
  go_wp2_with fail
  go_ret
  exact⟨rfl,HB.out⟩
 ·have t1:((l.length:Int) == 0)=false:=by rw [beq_eq_false_iff_ne]; omega
  rw [decide_eq_false h0,Bool.false_and] at h
  subst h
  clear h0 hv
  go_enter Tryz.func64,Tryz.ntmps64
  go_wp2_with fail
  go_ret
  exact⟨rfl,HB.out⟩

end Go.Proofs.YtmpigdokghngiaaGreat
end

section
namespace Go.Proofs.YtmpigdokghngiaaGreat
open Go.RowKit

theorem chg_clone {w:World} {v:Value} {t:List Chg} (hv:RdS chgVals 6 Chg.zero w v t) (hl:t.length≤4294967) :
  Calls Tryz.prog 165 #[v] w fun e w' => ∃ u,e=.returned u∧OwnS chgVals 6 105 w' w.heap.size u t∧Below w.heap.size w w':=by
 have HV:=hZq hv
 obtain⟨a,cap,rfl,h1,h2,h3,h4⟩:=hv
 cases a with
 | none =>
  obtain rfl:cap=0:=h3 rfl
  obtain rfl:t=[]:=List.length_eq_zero_iff.1 (by omega)
  have heq:=fun w => eqlS_nil_nil chgOK w 0 0
  clear h4
  go_enter Tryz.func165,Tryz.ntmps165
  go_wp2_with fail
  go_ret
  exact⟨_,rfl,ownS_nil _ _,Below.refl _ _⟩
 | some x =>
  have HS:=hZq ((HV.out.later ((Below.refl _ _).alloc (Nat.le_refl _) (.cells #[] 105))).src chgOK)
  have heq:=fun w => eqlS_nil_some chgOK w x t.length cap
  clear h4 h3
  go_enter Tryz.func165,Tryz.ntmps165
  go_wp2_with (at_builtin; go_must (refine wpList_append_S chgOK rfl _ _ rfl w.heap.size _ [] rfl (by exact ownS_made w) (some x) t.length cap t rfl rfl (fun e => nomatch e) ?c1 (by simp only [List.length_nil]; omega) (by simp) ?_))
  case c1 => intro ad had; obtain rfl:=Option.some.inj had; exact HS.out
  intro v' w' ho' hb'
  have O:=hZq ho'
  have hbB:Hid (Below w.heap.size w w'):=((Below.refl w.heap.size w).alloc (Nat.le_refl _) _).trans hb'
  clear ho' hb'
  go_wp2_with fail
  go_ret
  exact⟨_,rfl,by have:=O.out; simpa using this,hbB.out⟩

end Go.Proofs.YtmpigdokghngiaaGreat
end

section
namespace Go.Proofs.YtmpigdokghngiaaGreat
open Go.RowKit

theorem twoQ {w:World} {b:Nat} {x0 x1:Value} {T:TypeId} (h:w.heap[b]?=some (.cells #[x0,x1] T (0,0))):(w.cell? ⟨b,0,none⟩=some x0∧w.cell? ⟨b,1,none⟩=some x1)∧w.frozen? ⟨b,0,none⟩=false∧w.frozen? ⟨b,1,none⟩=false :=
 ⟨⟨cell_of_row w b 0 _ _ (0,0) h,cell_of_row w b 1 _ _ (0,0) h⟩,frozen_of_row w b 0 _ _ h,frozen_of_row w b 1 _ _ h⟩

theorem sixQ {w:World} {b:Nat} {x0 x1 x2 x3 x4 x5:Value} {T:TypeId} (h:w.heap[b]?=some (.cells #[x0,x1,x2,x3,x4,x5] T (0,0))):(w.cell? ⟨b,0,none⟩=some x0∧w.cell? ⟨b,1,none⟩=some x1∧w.cell? ⟨b,2,none⟩=some x2∧w.cell? ⟨b,3,none⟩=some x3∧w.cell? ⟨b,4,none⟩=some x4∧w.cell? ⟨b,5,none⟩=some x5) ∧
  (w.frozen? ⟨b,0,none⟩=false∧w.frozen? ⟨b,1,none⟩=false∧w.frozen? ⟨b,2,none⟩=false∧w.frozen? ⟨b,3,none⟩=false∧w.frozen? ⟨b,4,none⟩=false∧w.frozen? ⟨b,5,none⟩=false) :=
 ⟨⟨cell_of_row w b 0 _ _ (0,0) h,cell_of_row w b 1 _ _ (0,0) h,cell_of_row w b 2 _ _ (0,0) h,cell_of_row w b 3 _ _ (0,0) h,cell_of_row w b 4 _ _ (0,0) h,cell_of_row w b 5 _ _ (0,0) h⟩,
  ⟨frozen_of_row w b 0 _ _ h,frozen_of_row w b 1 _ _ h,frozen_of_row w b 2 _ _ h,frozen_of_row w b 3 _ _ h,frozen_of_row w b 4 _ _ h,frozen_of_row w b 5 _ _ h⟩⟩

end Go.Proofs.YtmpigdokghngiaaGreat
end

section
end

section
namespace Go.Proofs.YtmpigdokghngiaaGreat
open Go.RowKit

theorem store6Q {w0 w:World} {base g:Nat} (h:Below base w0 w) (hg:base≤g) (a0 a1 a2 a3 a4 a5:Nat) (v0 v1 v2 v3 v4 v5:Value) :
  Below base w0 ((((((w.setCell ⟨g,a0,none⟩ v0).setCell ⟨g,a1,none⟩ v1).setCell ⟨g,a2,none⟩ v2).setCell ⟨g,a3,none⟩ v3).setCell ⟨g,a4,none⟩ v4).setCell ⟨g,a5,none⟩ v5) :=
 (((((h.setCell hg _).setCell hg _).setCell hg _).setCell hg _).setCell hg _).setCell hg _

theorem ownQ_other {w:World} {base:Nat} {v:Value} {l:List Chg} (h:OwnQ w base v l) {b:Nat} (hb:b < base) (j:Nat) (u:Value):OwnQ (w.setCell ⟨b,j,none⟩ u) base v l:=by
 obtain⟨h1,h2⟩:=h
 refine ⟨h1,?_⟩
 rcases h2 with h2 | ⟨g,cap,cur,e,hge,hgb,r⟩
 ·exact .inl h2
 ·exact .inr ⟨g,cap,cur,e,hge,(Below.heap_setCell _ _ _ g (by show ¬ g=b; omega)).trans hgb,r⟩

theorem ownQ_shape {w:World} {base:Nat} {v:Value} {l:List Chg} (h:OwnQ w base v l):∃ a c,v=.slice a l.length c:=by
 rcases h.2 with ⟨rfl,h0⟩ | ⟨g,cg,cur,rfl,_⟩
 ·exact⟨none,0,by rw [h0]⟩
 ·exact⟨_,cg,rfl⟩

end Go.Proofs.YtmpigdokghngiaaGreat
end

section
namespace Go.Proofs.YtmpigdokghngiaaGreat
open Go.RowKit

theorem run_slice_from_S {α:Type} {P:Program} {vals:α→List Value} {sz:Nat} {zero:α} {T S:TypeId} {Z:Value} {bytes:Nat} (D:RowOK P vals sz zero T S Z bytes) (w:World) (ad:Addr) (n cap l:Nat) (I:Int) (hI:I=(l:Int)) (h:l≤n) :
  (Instr.slice S (.slice (some ad) n cap) (some (.int .i64 I)) none none).run P w=.ok (.slice (some (if cap=l then ad else ad.add (l * sz))) (n - l) (cap - l)) w:=by
 obtain⟨i,hi,hz,hsize,hby⟩:=info_parts D.info
 subst hI
 have he:P.elem S=T:=by unfold Program.elem; rw [D.under]
 rw [run_slice_l w S (some ad) n cap (by rw [he]; exact D.under) .i64 (l:Int) (by omega) (by omega),he,run_sizeOf w hi]
 simp only [Result.andThen,sliced,Int.toNat_natCast]
 have hc:P.cellsOf T=sz:=by unfold Program.cellsOf; rw [hi]; exact hsize
 rw [hc]
 split <;> rfl

theorem RdS.tail {α:Type} {vals:α→List Value} {sz:Nat} {zero:α} {w:World} {ad:Addr} {n cap:Nat} {l:List α} (h:RdS vals sz zero w (.slice (some ad) n cap) l) (_hsz:0 < sz) (p:Nat) (hp:p≤l.length) :
  RdS vals sz zero w (.slice (some (if cap=p then ad else ad.add (p * sz))) (n - p) (cap - p)) (l.drop p):=by
 obtain⟨a',cap',e,h1,h2,h3,h4⟩:=h
 simp only [Value.slice.injEq] at e
 obtain⟨rfl,rfl,rfl⟩:=e
 refine ⟨_,_,by rw [List.length_drop],by rw [List.length_drop]; omega,by omega,fun e => by simp at e,?_⟩
 rcases h4 with rfl | ⟨b,off,e,hlt,hc⟩
 ·exact .inl (by simp)
 ·by_cases hd:l.drop p=[]
  ·exact .inl hd
  ·have hpl:p < l.length:=by
    rcases Nat.lt_or_ge p l.length with hh | hh
    ·exact hh
    ·exact absurd (List.drop_eq_nil_of_le hh) hd
   obtain rfl:ad=⟨b,off,none⟩:=by simpa using e
   refine .inr ⟨b,off+p * sz,?_,hlt,fun i hi => ?_⟩
   ·rw [if_neg (by omega),Addr.add_lit]
   ·rw [List.length_drop] at hi
    have:=hc (p+i) (by omega)
    have e2:(l.drop p).getD i zero=l.getD (p+i) zero:=by
     rw [List.getD_eq_getElem?_getD,List.getD_eq_getElem?_getD,List.getElem?_drop]
    rw [e2,show off+p * sz+i * sz=off+(p+i) * sz by rw [Nat.add_mul]; omega]
    exact this

end Go.Proofs.YtmpigdokghngiaaGreat
end

section
namespace Go.Proofs.YtmpigdokghngiaaGreat
open Go.RowKit

end Go.Proofs.YtmpigdokghngiaaGreat
end

section
namespace Go.Proofs.YtmpigdokghngiaaGreat
open Go.RowKit

def csSame (a b:List Chg):Bool:=decide (a.length=b.length) && (List.range a.length).all fun i => cSame (a.getD i Chg.zero) (b.getD i Chg.zero)

theorem csSame_self (a:List Chg):csSame a a=true:=by
 unfold csSame
 simp only [decide_true,Bool.true_and,List.all_eq_true]
 intro i _
 exact cSame_self _

theorem csSame_len {a b:List Chg} (h:¬ a.length=b.length):csSame a b=false:=by
 unfold csSame
 simp [h]

theorem csSame_off {a b:List Chg} {k:Nat} (hk:k < a.length) (h:cSame (a.getD k Chg.zero) (b.getD k Chg.zero)=false):csSame a b=false:=by
 rw [Bool.eq_false_iff]
 intro h'
 unfold csSame at h'
 rw [Bool.and_eq_true,List.all_eq_true] at h'
 rw [h'.2 k (by simpa using hk)] at h
 cases h

theorem csSame_on {a b:List Chg} (hl:a.length=b.length) (h:(List.range a.length).all (fun i => cSame (a.getD i Chg.zero) (b.getD i Chg.zero))=true):csSame a b=true:=by
 unfold csSame
 rw [h]
 simp [hl]

theorem csSame_next {t u:List Chg} {k:Nat} (h:(List.range k).all (fun i => cSame (t.getD i Chg.zero) (u.getD i Chg.zero))=true) (hk:cSame (t.getD k Chg.zero) (u.getD k Chg.zero)=true) :
  (List.range (k+1)).all (fun i => cSame (t.getD i Chg.zero) (u.getD i Chg.zero))=true:=range_all_succ h hk

theorem csame_any {w:World} {v u:Value} {t s:List Chg} (hv:Chgs w v t) (hu:Chgs w u s) :
  Calls Tryz.prog 87 #[v,u] w fun e w' => e=.returned (.bool (csSame t s))∧Below w.heap.size w w':=by
 have HV:=hZq hv
 have HU:=hZq hu
 obtain⟨a,cap,rfl,hm⟩:=hv.open'
 obtain⟨a2,cap2,rfl,hm2⟩:=hu.open'
 clear hv hu
 by_cases hl:t.length=s.length
 ·have HL:=hZq hl
  have t1:((t.length:Int) != (s.length:Int))=false:=by simp [hl]
  clear hl
  go_enter Tryz.func87,Tryz.ntmps87
  go_wp2_with fail
  go_loopw [5] (fun i wr => ∃ k:Nat,k≤t.length∧i=.int .i64 k∧Hid (Below w.heap.size w wr)∧Hid ((List.range k).all (fun i => cSame (t.getD i Chg.zero) (s.getD i Chg.zero))=true)) (fun i _ => t.length - (intOf i).toNat)
  case atStart => exact⟨0,by omega,rfl,Below.refl _ _,by show _=_; simp⟩
  case round =>
   obtain⟨k,hk,rfl,HN,HA⟩:=hrel
   by_cases hlt:k < t.length
   ·obtain⟨b,off,rfl,h0,h1,h2,h3,h4,h5⟩:=HV.out.row HN.out k hlt
    obtain⟨b2,off2,rfl,i0,i1,i2,i3,i4,i5⟩:=HU.out.row HN.out k (by rw [← HL.out]; exact hlt)
    have hlt2:k < s.length:=by rw [← HL.out]; exact hlt
    obtain⟨⟨c,o,⟨x,y,z,st⟩⟩,hr⟩ : ∃ r,t.getD k Chg.zero=r:=⟨_,rfl⟩
    obtain⟨⟨c',o',⟨x',y',z',st'⟩⟩,hr'⟩ : ∃ r,s.getD k Chg.zero=r:=⟨_,rfl⟩
    rw [hr] at h0 h1 h2 h3 h4 h5
    rw [hr'] at i0 i1 i2 i3 i4 i5
    have hgd:Tryz.prog.eqGuardType Tryz.prog.depth 105=false:=by kernel_rfl
    have hne:=chg_neq6 c c' o o' x y z x' y' z' st st'
    cases hs:cSame ⟨c,o,x,y,z,st⟩ ⟨c',o',x',y',z',st'⟩ with
    | false =>
     have HR:Hid (csSame t s=false):=by show _=_; exact csSame_off hlt (by rw [hr,hr']; exact hs)
     rw [hs] at hne
     simp only at h0 h1 h2 h3 h4 h5 i0 i1 i2 i3 i4 i5
     clear hr hr' hs
     go_wp2_with fail
     go_region
     go_wp2_with fail
     go_ret
     exact⟨by rw [HR.out]; rfl,HN.out.drew⟩
    | true =>
     have HA2:Hid ((List.range (k+1)).all (fun i => cSame (t.getD i Chg.zero) (s.getD i Chg.zero))=true):=by show _=_; exact csSame_next HA.out (by rw [hr,hr']; exact hs)
     rw [hs] at hne
     simp only at h0 h1 h2 h3 h4 h5 i0 i1 i2 i3 i4 i5
     clear hr hr' hs
     go_wp2_with fail
     go_region
     go_wp2_with fail
     go_roundw
     case rel => exact⟨k+1,by omega,by go_num,HN.out.drew,HA2⟩
     case measure => simp [intOf]; omega
   ·obtain rfl:k=t.length:=by omega
    have HR:Hid (csSame t s=true):=by show _=_; exact csSame_on HL.out HA.out
    go_wp2_with fail
    go_ret
    exact⟨by rw [HR.out]; rfl,HN.out⟩
 ·have HR:=hZq (csSame_len hl)
  have t1:((t.length:Int) != (s.length:Int))=true:=by simp; omega
  clear hl
  go_enter Tryz.func87,Tryz.ntmps87
  go_wp2_with fail
  go_ret
  exact⟨by rw [HR.out]; rfl,Below.refl _ _⟩

end Go.Proofs.YtmpigdokghngiaaGreat
end
