/-
 TEXTS OF THE PROOF, one behind the other: FraPure, LinkPure, SeqS, LnkFrm, Row, RowA, NoStr, HeldC, LnkPushX, QueOne, Rgm, QueMay, ChgIns, QueFind.
-/
import Derived.Test.YtfocooajnignbaaW01
import Derived.Test.YtfocooajnignbaaW05
import Derived.Test.YtfocooajnignbaaW03
import Derived.Deep.MidRow
import Derived.Below
import Derived.Test.YtfocooajnignbaaProg
import Derived.Lib.Hide
import Derived.Deep.Cut
import Derived.BigFrame
import Derived.Test.YtfocooajnignbaaW02
import Derived.Lib.QuietBelow
import Derived.Test.YtfocooajnignbaaW04
import Derived.Maps.OwnSet
import Derived.Deep.RegionHeld
import Derived.Deep.AppendLies
import Derived.WalkSpells
import Derived.StillTailTactics

set_option maxHeartbeats 12800000
set_option maxRecDepth 100000

namespace Go.Proofs.Ytfocooajnignbaa
section

structure Frm where
 k:Int
 s:Int
 on:Bool
 c:List UInt8
 v:Val
 sum:Nat
 t:List Row

def Frm.zero:Frm:=⟨0,0,false,[],Val.zero,0,[]⟩

def frRest (f:Frm):Bool :=
 if f.k=1 then decide (f.sum=0) && (decide (f.t.length=0) && (idIs f.c && (if f.on=true then vaMay f.v else vSame f.v Val.zero)))
 else if f.k=2 then (!f.on && (f.c == [] && vSame f.v Val.zero)) && decide (f.t.length=0)
 else if f.k=3 then (!f.on && (f.c == [] && vSame f.v Val.zero)) && (decide (f.sum=0) && diMay f.t)
 else (!f.on && (f.c == [] && vSame f.v Val.zero)) && (decide (f.sum=0) && decide (f.t.length=0))

def frMay (f:Frm):Bool:=(decide (1≤f.k) && decide (f.k≤4)) && ((decide (0≤f.s) && decide (f.s≤1099511627776)) && frRest f)

def be8 (n:Nat):List UInt8:=[u8of (n / 72057594037927936 % 256),u8of (n / 281474976710656 % 256),u8of (n / 1099511627776 % 256),u8of (n / 4294967296 % 256),u8of (n / 16777216 % 256),u8of (n / 65536 % 256),u8of (n / 256 % 256),u8of (n % 256)]

def frBody (f:Frm):List UInt8 :=
 if f.k=1 then (if f.on=true then 1 :: ((idPut f.c).1 ++ vaBytes f.v) else 0 :: (idPut f.c).1)
 else if f.k=2 then be8 f.sum
 else if f.k=3 then (diPut f.t).1
 else []

def frPlain (f:Frm):List UInt8:=u8of f.k.toNat :: (vput f.s.toNat ++ frBody f)

def frEnc (f:Frm):List UInt8 × Nat:=if frMay f=true then (cseal (frPlain f),0) else ([],1)

def sum8 (l:List UInt8):Nat:=l.foldl (fun a b => a * 256+b.toNat) 0

def frTakeBody (k : Nat) (s : Nat) (b : List UInt8) : Option Frm :=
  if k = 1 then
    (if b.length = 0 then none
     else if (idTake b 1).2.2 ≠ 0 then none
     else if b.getD 0 0 = 0 then some ⟨1, s, false, (idTake b 1).1, Val.zero, 0, []⟩
     else if (vaTake b (idTake b 1).2.1).2.2 ≠ 0 then none
     else some ⟨1, s, true, (idTake b 1).1, (vaTake b (idTake b 1).2.1).1, 0, []⟩)
  else if k = 2 then (if b.length < 8 then none else some ⟨2, s, false, [], Val.zero, sum8 (b.take 8), []⟩)
  else if k = 3 then (if (diTake b 0).2.2 ≠ 0 then none else some ⟨3, s, false, [], Val.zero, 0, (diTake b 0).1⟩)
  else some ⟨k, s, false, [], Val.zero, 0, []⟩

def frTake (l:List UInt8):Option Frm :=
 match l with
 | [] => none
 | x :: r => if x.toNat < 1∨4 < x.toNat then none else if (vget (x :: r) 1).2.2 ≠ 0 then none else frTakeBody x.toNat (vget (x :: r) 1).1 ((x :: r).drop (vget (x :: r) 1).2.1)

structure FrOk (f:Frm):Prop where
 k1:1≤f.k
 k4:f.k≤4
 s0:0≤f.s
 s1:f.s≤1099511627776
 rest:frRest f=true
end
section

structure Lnk where
 seq:Int
 q:Que
 b:Bkt
 sn:Bool
 dg:Int

def lnMay (c:Cfg) (l:Lnk):Bool:=pcOne c l.b && (decide (0≤l.seq) && (decide (l.seq≤1099511627776) && (quMay l.q c.room && (!l.q.la && (pcTime l.dg && (!l.sn || decide (l.q.l=[])))))))
def lnAsk (l:Lnk):Lnk:={ l with sn:=true,q:=⟨[],false⟩ }
def lnPush (c:Cfg) (l:Lnk) (x:Chg):Lnk:=if l.sn=true then l else if (quPush l.q x c.room).la=true then lnAsk l else { l with q:=quPush l.q x c.room }
def lnQuiet (l:Lnk):Bool:=!l.sn && quEmpty l.q

def lnTell (c:Cfg) (view:List Row) (now:Int) (l:Lnk):Option (Frm × Lnk) :=
 if l.sn=true then some (⟨3,0,false,[],Val.zero,0,view⟩,{ l with sn:=false,q:=⟨[],false⟩,dg:=now })
 else match l.q.l with
  | x :: r => some (⟨1,0,x.on,x.c,x.v,0,[]⟩,{ l with q:=⟨r,l.q.la⟩ })
  | [] => if now - l.dg < c.per then none else some (⟨2,0,false,[],Val.zero,diSum view,[]⟩,{ l with dg:=now })

def lnStep (c:Cfg) (view:List Row) (now:Int) (l:Lnk):Option (Frm × Lnk) :=
 if 1099511627776≤l.seq then none
 else match lnTell c view now l with
  | none => none
  | some (f,m) => if (pcTake c l.b now).2=true then some ({ f with s:=l.seq },{ m with b:=(pcTake c l.b now).1,seq:=l.seq+1 }) else none

def lnRun (c:Cfg) (view:List Row) (now:Int):Nat→Lnk→Lnk × List Frm
 | 0,l => (l,[])
 | n+1,l => match lnStep c view now l with
  | none => (l,[])
  | some (f,m) => ((lnRun c view now n m).1,f :: (lnRun c view now n m).2)

def lnEmit (c:Cfg) (l:Lnk) (view:List Row) (now:Int):Lnk × List Frm :=
 if (lnMay c l && (diMay view && pcTime now))=true then lnRun c view now 65 l else (l,[])

theorem lnMay_iff {c:Cfg} {l:Lnk}:lnMay c l=true ↔ pcOne c l.b=true∧0≤l.seq∧l.seq≤1099511627776∧quMay l.q c.room=true∧l.q.la=false∧pcTime l.dg=true∧(l.sn=true→l.q.l=[]):=by
 unfold lnMay
 simp only [Bool.and_eq_true,Bool.or_eq_true,Bool.not_eq_true',decide_eq_true_eq]
 refine ⟨fun ⟨h1,h2,h3,h4,h5,h6,h7⟩ => ⟨h1,h2,h3,h4,h5,h6,fun hs => ?_⟩,fun ⟨h1,h2,h3,h4,h5,h6,h7⟩ => ⟨h1,h2,h3,h4,h5,h6,?_⟩⟩
 ·rcases h7 with h7 | h7
  ·rw [hs] at h7; cases h7
  ·exact h7
 ·cases hs:l.sn
  ·exact .inl rfl
  ·exact .inr (h7 hs)

theorem take_yes {c:Cfg} {b:Bkt} {now:Int} (h:pcOne c b=true) (hn:pcTime now=true) (ht:(pcTake c b now).2=true) :
  pcOne c (pcTake c b now).1=true∧pcLev c (pcTake c b now).1 now=pcLev c b now - 1∧1≤pcLev c b now:=by
 have hg:=pcLev_ge (now:=now) h
 rw [pcTake_in h hn] at ht ⊢
 by_cases h0:pcLev c b now=0
 ·rw [if_pos h0] at ht; cases ht
 ·rw [if_neg h0] at ht ⊢
  obtain⟨m,t0,t1,a0,a1⟩:=pcOne_iff.1 h
  obtain⟨n0,n1⟩:=pcTime_iff.1 hn
  refine ⟨pcOne_iff.2 ⟨m,by simp only; omega,by simp only; omega,by simp only; omega,by simp only; omega⟩,?_,by omega⟩
  unfold pcLev
  simp only
  rw [if_pos (by omega)]

theorem quMay_tail {x:Chg} {r:List Chg} {room:Int} (h:quMay ⟨x :: r,false⟩ room=true):quOne x=true∧quMay ⟨r,false⟩ room=true:=by
 obtain⟨m1,m2,m3,m4⟩:=quMay_iff.1 h
 simp only [List.length_cons] at m1
 exact⟨m3 x (by simp),quMay_iff.2 ⟨by simp only; omega,(fun e => by cases e),fun y hy => m3 y (List.mem_cons_of_mem _ hy),quNo2_tail m4⟩⟩

theorem tell_may {c:Cfg} {view:List Row} {now:Int} {l m:Lnk} {f:Frm} (h:lnMay c l=true) (hv:diMay view=true) (hn:pcTime now=true) (ht:lnTell c view now l=some (f,m)) :
  lnMay c m=true∧m.b=l.b∧m.seq=l.seq∧1≤f.k∧f.k≤3∧frRest f=true:=by
 obtain⟨h1,h2,h3,h4,h5,h6,h7⟩:=lnMay_iff.1 h
 obtain⟨seq,⟨q,la⟩,b,sn,dg⟩:=l
 simp only at h1 h2 h3 h4 h5 h6 h7
 subst h5
 unfold lnTell at ht
 simp only at ht
 cases sn with
 | true =>
  rw [if_pos rfl] at ht
  cases ht
  have hq:q=[]:=h7 rfl
  subst hq
  refine ⟨lnMay_iff.2 ⟨h1,h2,h3,h4,rfl,hn,fun e => by cases e⟩,rfl,rfl,by show (1:Int)≤3; decide,by show (3:Int)≤3; decide,?_⟩
  show ((!false && (([]:List UInt8) == [] && vSame Val.zero Val.zero)) && (decide ((0:Nat)=0) && diMay view))=true
  rw [hv]
  rfl
 | false =>
  rw [if_neg (by decide)] at ht
  cases q with
  | cons x r =>
   simp only at ht
   cases ht
   obtain⟨o1,o2⟩:=quMay_tail h4
   refine ⟨lnMay_iff.2 ⟨h1,h2,h3,o2,rfl,h6,fun e => by cases e⟩,rfl,rfl,by show (1:Int)≤1; decide,by show (1:Int)≤3; decide,?_⟩
   unfold quOne at o1
   show (decide ((0:Nat)=0) && (decide (([]:List Row).length=0) && (idIs x.c && (if x.on=true then vaMay x.v else vSame x.v Val.zero))))=true
   rw [o1]
   rfl
  | nil =>
   simp only at ht
   split at ht
   ·cases ht
   ·cases ht
    refine ⟨lnMay_iff.2 ⟨h1,h2,h3,h4,rfl,hn,fun e => by cases e⟩,rfl,rfl,by show (1:Int)≤2; decide,by show (2:Int)≤3; decide,?_⟩
    rfl

theorem step_may {c:Cfg} {view:List Row} {now:Int} {l m:Lnk} {f:Frm} (h:lnMay c l=true) (hv:diMay view=true) (hn:pcTime now=true) (ht:lnStep c view now l=some (f,m)) :
  lnMay c m=true∧m.seq=l.seq+1∧f.s=l.seq∧frMay f=true∧f.k≤3∧pcLev c m.b now=pcLev c l.b now - 1∧1≤pcLev c l.b now:=by
 unfold lnStep at ht
 split at ht
 ·cases ht
 ·rename_i hs
  split at ht
  ·cases ht
  ·rename_i f0 m0 hT
   split at ht
   ·rename_i hk
    cases ht
    obtain⟨t1,t2,t3,t4,t5,t6⟩:=tell_may h hv hn hT
    obtain⟨a1,a2,a3,a4,a5,a6,a7⟩:=lnMay_iff.1 h
    obtain⟨b1,b2,b3,b4,b5,b6,b7⟩:=lnMay_iff.1 t1
    obtain⟨k1,k2,k3⟩:=take_yes a1 hn hk
    refine ⟨lnMay_iff.2 ⟨k1,by simp only; omega,by simp only; omega,b4,b5,b6,b7⟩,rfl,rfl,?_,t5,k2,k3⟩
    unfold frMay
    simp only [Bool.and_eq_true,decide_eq_true_eq]
    exact⟨⟨t4,by omega⟩,⟨a2,by omega⟩,t6⟩
   ·cases ht

theorem run_none {c:Cfg} {view:List Row} {now:Int} {l:Lnk} (h:lnStep c view now l=none) (n:Nat):lnRun c view now (n+1) l=(l,[]):=by
 show (match lnStep c view now l with
  | none => (l,[])
  | some (f,m) => ((lnRun c view now n m).1,f :: (lnRun c view now n m).2))=_
 rw [h]

theorem run_some {c:Cfg} {view:List Row} {now:Int} {l m:Lnk} {f:Frm} (h:lnStep c view now l=some (f,m)) (n:Nat):lnRun c view now (n+1) l=((lnRun c view now n m).1,f :: (lnRun c view now n m).2):=by
 show (match lnStep c view now l with
  | none => (l,[])
  | some (f,m) => ((lnRun c view now n m).1,f :: (lnRun c view now n m).2))=_
 rw [h]

theorem run_may {c:Cfg} {view:List Row} {now:Int} (hv:diMay view=true) (hn:pcTime now=true):∀ (n:Nat) (l:Lnk),lnMay c l=true →
  lnMay c (lnRun c view now n l).1=true∧(lnRun c view now n l).1.seq=l.seq+(lnRun c view now n l).2.length∧((lnRun c view now n l).2.length:Int)+pcLev c (lnRun c view now n l).1.b now=pcLev c l.b now ∧
  ∀ i,(hi:i < (lnRun c view now n l).2.length)→frMay ((lnRun c view now n l).2[i])=true∧((lnRun c view now n l).2[i]).s=l.seq+i∧((lnRun c view now n l).2[i]).k≤3
 | 0,l,h => ⟨h,by simp [lnRun],by simp [lnRun],fun i hi => by simp [lnRun] at hi⟩
 | n+1,l,h => by
  cases hs:lnStep c view now l with
  | none => rw [run_none hs]; exact⟨h,by simp,by simp,fun i hi => by simp at hi⟩
  | some p =>
   obtain⟨f,m⟩:=p
   rw [run_some hs]
   obtain⟨s1,s2,s3,s4,s5,s6,_⟩:=step_may h hv hn hs
   obtain⟨r1,r2,r3,r4⟩:=run_may hv hn n m s1
   refine ⟨r1,?_,?_,fun i hi => ?_⟩
   ·simp only [List.length_cons]; omega
   ·simp only [List.length_cons]; omega
   ·cases i with
    | zero => exact⟨s4,by simp only [List.getElem_cons_zero]; omega,s5⟩
    | succ i =>
     simp only [List.length_cons] at hi
     obtain⟨q1,q2,q3⟩:=r4 i (by omega)
     simp only [List.getElem_cons_succ]
     exact⟨q1,by omega,q3⟩
end
section
open Go.RowKit

theorem run_slice_from_S {α:Type} {P:Program} {vals:α→List Value} {sz:Nat} {zero:α} {T S:TypeId} {Z:Value} {bytes:Nat} (D:RowOK P vals sz zero T S Z bytes) (w:World) (ad:Addr) (n cap l:Nat) (I:Int) (hI:I=(l:Int)) (h:l≤n) :
  (Instr.slice S (.slice (some ad) n cap) (some (.int .i64 I)) none none).run P w=.ok (.slice (some (if cap=l then ad else ad.add (l * sz))) (n - l) (cap - l)) w:=by
 obtain⟨i,hi,hz,hsize,hby⟩:=info_parts D.info
 subst hI
 have he:P.elem S=T:=by unfold Program.elem; rw [D.under]
 rw [run_slice_l w S (some ad) n cap (by rw [he]; exact D.under) .i64 (l:Int) (by omega) (by omega),he,run_sizeOf w hi]
 simp only [Result.andThen,sliced,Int.toNat_natCast]
 have hc:P.cellsOf T=sz:=by unfold Program.cellsOf; rw [hi]; exact hsize
 rw [hc]
 split <;> rfl

theorem RdS.tail {α:Type} {vals:α→List Value} {sz:Nat} {zero:α} {w:World} {ad:Addr} {n cap:Nat} {l:List α} (h:RdS vals sz zero w (.slice (some ad) n cap) l) (_hsz:0 < sz) (p:Nat) (hp:p≤l.length) :
  RdS vals sz zero w (.slice (some (if cap=p then ad else ad.add (p * sz))) (n - p) (cap - p)) (l.drop p):=by
 obtain⟨a',cap',e,h1,h2,h3,h4⟩:=h
 simp only [Value.slice.injEq] at e
 obtain⟨rfl,rfl,rfl⟩:=e
 refine ⟨_,_,by rw [List.length_drop],by rw [List.length_drop]; omega,by omega,fun e => by simp at e,?_⟩
 rcases h4 with rfl | ⟨b,off,e,hlt,hc⟩
 ·exact .inl (by simp)
 ·by_cases hd:l.drop p=[]
  ·exact .inl hd
  ·have hpl:p < l.length:=by
    rcases Nat.lt_or_ge p l.length with hh | hh
    ·exact hh
    ·exact absurd (List.drop_eq_nil_of_le hh) hd
   obtain rfl:ad=⟨b,off,none⟩:=by simpa using e
   refine .inr ⟨b,off+p * sz,?_,hlt,fun i hi => ?_⟩
   ·rw [if_neg (by omega),Addr.add_lit]
   ·rw [List.length_drop] at hi
    have:=hc (p+i) (by omega)
    have e2:(l.drop p).getD i zero=l.getD (p+i) zero:=by
     rw [List.getD_eq_getElem?_getD,List.getD_eq_getElem?_getD,List.getElem?_drop]
    rw [e2,show off+p * sz+i * sz=off+(p+i) * sz by rw [Nat.add_mul]; omega]
    exact this
end
section
open Go.RowKit

structure FrS where
 f:Frm
 a:Option Addr
 n:Nat
 cap:Nat

def FrS.zero:FrS:=⟨Frm.zero,none,0,0⟩
def FrS.tv (p:FrS):Value:=.slice p.a p.n p.cap
def frVals (p:FrS):List Value:=[.int .i64 p.f.k,.int .i64 p.f.s,.bool p.f.on,.string ⟨p.f.c.toArray⟩,.int .i64 p.f.v.sh,.int .i64 p.f.v.pr,.int .i64 p.f.v.si,.string ⟨p.f.v.st.toArray⟩,.int .u64 p.f.sum,p.tv]

theorem frSOK:RowOK Try.prog frVals 10 FrS.zero 49 43 (.agg #[.int .i64 0,.int .i64 0,.bool false,.string ⟨#[]⟩,.int .i64 0,.int .i64 0,.int .i64 0,.string ⟨#[]⟩,.int .u64 0,.slice none 0 0]) 112 where
 len:=fun _ => rfl
 one:=fun p u hu => by
  simp only [frVals,FrS.tv,List.mem_cons,List.not_mem_nil,or_false] at hu
  rcases hu with rfl | rfl | rfl | rfl | rfl | rfl | rfl | rfl | rfl | rfl <;> rfl
 pos:=by decide
 small:=by decide
 under:=by kernel_rfl
 info:=by kernel_rfl
 zvals:=rfl
 fits:=by decide

def Frms (w:World) (v:Value) (l:List FrS):Prop:=RdS frVals 10 FrS.zero w v l∧∀ p ∈ l,Tab w p.tv p.f.t

theorem Frms.later {w w':World} {v:Value} {l:List FrS} (h:Frms w v l) (hb:Below w.heap.size w w'):Frms w' v l:=⟨RdS.later h.1 hb,fun p hp => (h.2 p hp).later hb⟩
end
section
open Go.RowKit

theorem setCells_far (B:Nat):∀ (cs:List Value) (o:Nat) (w:World) {k:Nat},¬ k=B→(w.setCells B o cs).heap[k]?=w.heap[k]?
 | [],_,_,_,_ => rfl
 | v :: r,o,w,k,hk => by
  rw [World.setCells,setCells_far B r (o+1) _ hk]
  exact Below.heap_setCell _ _ _ k hk

theorem setCells_sizeR (B:Nat):∀ (cs:List Value) (o:Nat) (w:World),(w.setCells B o cs).heap.size=w.heap.size
 | [],_,_ => rfl
 | v :: r,o,w => by
  rw [World.setCells,setCells_sizeR B r (o+1)]
  simp only [World.setCell,Array.size_modify]

theorem setCells_belowR {w0:World} {n B:Nat} (hB:n≤B):∀ (cs:List Value) (o:Nat) {w:World},Below n w0 w→Below n w0 (w.setCells B o cs)
 | [],_,_,h => h
 | v :: r,o,w,h => by
  rw [World.setCells]
  exact setCells_belowR hB r (o+1) (h.setCell hB _)

theorem setCells_mid {B:Nat} {T:TypeId}:∀ (cs pre xs:List Value) (w:World),w.heap[B]?=some (.cells (pre ++ xs).toArray T (0,0))→cs.length≤xs.length→(w.setCells B pre.length cs).heap[B]?=some (.cells (pre ++ cs ++ xs.drop cs.length).toArray T (0,0))
 | [],pre,xs,w,h,hl => by
  show w.heap[B]?=_
  simpa using h
 | v :: r,pre,x :: xs,w,h,hl => by
  rw [World.setCells]
  have h1:=heap_setCell_same w B pre.length _ _ v h
  have e:((pre ++ x :: xs).toArray.setIfInBounds pre.length v)=((pre ++ [v]) ++ xs).toArray:=by
   simp
  rw [e] at h1
  have:=setCells_mid r (pre ++ [v]) xs _ h1 (by simpa using hl)
  simpa using this
end
section
open Go.RowKit

structure AggTy (ty:TypeId) (n:Nat):Prop where
 row:∃ d,Try.prog.underlying ty=some d∧d.isRow=true
 info:(Try.prog.info? ty).map (·.size)=some n

theorem ldA {ops:Array Oper} {rest:List Oper} {op:Oper} {a:Act} {w:World} {Q:Exit→Act→World→Prop} {ty:TypeId} {n:Nat} (ht:AggTy ty n) (x:Operand) (hgd:op.guard=none) (ho:op.op=.load ty x)
  (b o:Nat) (hx:a.eval x=.pointer (some ⟨b,o,none⟩)) {all:List Value} {T:TypeId} (h:w.heap[b]?=some (.cells all.toArray T (0,0))) (cs:List Value) (hc:(all.drop o).take n=cs) (hl:cs.length=n)
  (hK:wpList Try.prog ops Q rest (a.put op.dst (.agg cs.toArray)) w):wpList Try.prog ops Q (op :: rest) a w:=by
 obtain⟨⟨d,hu,hd⟩,hi⟩:=ht
 refine wpList_load_mid hgd ty x ho b o hx cs d (fun j v hv => ?_) hu hd (by rw [hi,hl]) hK
 rw [cell_of_row w b (o+j) _ _ _ h]
 rw [← hc,List.getElem?_take] at hv
 split at hv
 ·rw [List.getElem?_drop] at hv
  simpa using hv
 ·cases hv

theorem ldG {ops:Array Oper} {rest:List Oper} {op:Oper} {a:Act} {w:World} {Q:Exit→Act→World→Prop} {ty:TypeId} {n:Nat} (ht:AggTy ty n) (x:Operand) (hgd:Region.wanted op (yielded ops a.tmps)=true) (ho:op.op=.load ty x)
  (b o:Nat) (hx:a.eval x=.pointer (some ⟨b,o,none⟩)) {all:List Value} {T:TypeId} (h:w.heap[b]?=some (.cells all.toArray T (0,0))) (cs:List Value) (hc:(all.drop o).take n=cs) (hl:cs.length=n)
  (hK:wpList Try.prog ops Q rest (a.put op.dst (.agg cs.toArray)) w):wpList Try.prog ops Q (op :: rest) a w:=by
 obtain⟨⟨d,hu,hd⟩,hi⟩:=ht
 refine BigFrame.wpList_want hgd fun _ hK2 => wp_load_mid ty x ho b o hx cs d (fun j v hv => ?_) hu hd (by rw [hi,hl]) (hK2 _ _ hK)
 rw [cell_of_row w b (o+j) _ _ _ h]
 rw [← hc,List.getElem?_take] at hv
 split at hv
 ·rw [List.getElem?_drop] at hv
  simpa using hv
 ·cases hv

theorem ldR {ops:Array Oper} {rest:List Oper} {op:Oper} {a:Act} {w:World} {Q:Exit→Act→World→Prop} {ty:TypeId} {n:Nat} (ht:AggTy ty n) (x:Operand) (hgd:op.guard=none) (ho:op.op=.load ty x)
  (b o:Nat) (hx:a.eval x=.pointer (some ⟨b,o,none⟩)) (cs:List Value) (h:CellsAt w b o cs) (hl:cs.length=n)
  (hK:wpList Try.prog ops Q rest (a.put op.dst (.agg cs.toArray)) w):wpList Try.prog ops Q (op :: rest) a w:=by
 obtain⟨⟨d,hu,hd⟩,hi⟩:=ht
 exact wpList_load_mid hgd ty x ho b o hx cs d h hu hd (by rw [hi,hl]) hK

structure StA (w w':World) (b:Nat) (new:List Value) (T:TypeId):Prop where
 at':w'.heap[b]?=some (.cells new.toArray T (0,0))
 far:∀ k,¬ k=b→w'.heap[k]?=w.heap[k]?
 size:w'.heap.size=w.heap.size
 bel:∀ {w0:World} {n:Nat},Below n w0 w→n≤b→Below n w0 w'

theorem StA.keep {w w':World} {b:Nat} {new:List Value} {T:TypeId} (h:StA w w' b new T) {k:Nat} {o:Obj} (hk:w.heap[k]?=some o) (hn:¬ k=b):w'.heap[k]?=some o:=(h.far k hn).trans hk

theorem stA_mid {w:World} {b o:Nat} {all cs new:List Value} {T:TypeId} (h:w.heap[b]?=some (.cells all.toArray T (0,0))) (hn:o+cs.length≤all.length) (hnew:all.take o ++ cs ++ all.drop (o+cs.length)=new):StA w (w.setCells b o cs) b new T:=by
 refine ⟨?_,fun k hk => setCells_far b cs o w hk,setCells_sizeR b cs o w,fun hb hle => setCells_belowR hle cs o hb⟩
 have e:all=all.take o ++ all.drop o:=(List.take_append_drop o all).symm
 have hl:(all.take o).length=o:=by rw [List.length_take]; omega
 have:=setCells_mid cs (all.take o) (all.drop o) w (by rw [← e]; exact h) (by rw [List.length_drop]; omega)
 rw [hl,List.drop_drop,hnew] at this
 exact this

theorem stA {ops:Array Oper} {rest:List Oper} {op:Oper} {a:Act} {w:World} {Q:Exit→Act→World→Prop} {ty:TypeId} {n:Nat} (ht:AggTy ty n) (x y:Operand) (hgd:op.guard=none) (ho:op.op=.store ty x y)
  (b o:Nat) (hx:a.eval x=.pointer (some ⟨b,o,none⟩)) {all:List Value} {T:TypeId} (h:w.heap[b]?=some (.cells all.toArray T (0,0))) (cs:List Value) (hy:a.eval y=.agg cs.toArray) (hl:cs.length=n) (hn:o+n≤all.length)
  (h1:(cs.all fun v => v.oneCell')=true) (new:List Value) (hnew:all.take o ++ cs ++ all.drop (o+n)=new)
  (hK:∀ w',StA w w' b new T→wpList Try.prog ops Q rest (a.put op.dst undef) w'):wpList Try.prog ops Q (op :: rest) a w:=by
 obtain⟨-,hi⟩:=ht
 subst hl
 refine wpList_store_mid hgd ty x y ho b o cs.toArray hx hy (fun j hj => ?_) (by rw [hi]; simp) (all_oneCell_toArray fun v hv => by simpa using List.all_eq_true.1 h1 v hv) (hK _ (stA_mid h hn hnew))
 have hj:j < cs.length:=by simpa using hj
 rw [cell_of_row w b (o+j) _ _ _ h,frozen_of_row w b (o+j) _ _ h]
 refine ⟨?_,rfl⟩
 rw [List.getElem?_toArray,List.getElem?_eq_getElem (by omega)]
 rfl
end
section
open Go.RowKit

def NoStr (w:World) (B:Nat):Prop:=∀ o s,w.cell? ⟨B,o,none⟩ ≠ some (.string s)

theorem noStr_of {w:World} {B:Nat} {l:List Value} {T:TypeId} {fr:Nat × Nat} (h:w.heap[B]?=some (.cells l.toArray T fr)) (hn:∀ v ∈ l,∀ s,v ≠ .string s):NoStr w B:=fun o s he => by
 rw [cell_of_row w B o _ _ _ h] at he
 have hm:=Array.mem_of_getElem? he
 exact hn _ (by simpa using hm) s rfl

theorem cell_far {w W:World} {B b o:Nat} (hfar:∀ k,¬ k=B→W.heap[k]?=w.heap[k]?) (hb:¬ b=B):W.cell? ⟨b,o,none⟩=w.cell? ⟨b,o,none⟩:=World.cell?_of_block (hfar b hb)

theorem Chgs.nostr {w W:World} {v:Value} {l:List Chg} (h:Chgs w v l) {B:Nat} (hn:NoStr w B) (hfar:∀ k,¬ k=B→W.heap[k]?=w.heap[k]?) (hs:W.heap.size=w.heap.size):Chgs W v l:=by
 obtain⟨a,cap,h1,h2,h3,h4,h5⟩:=h
 refine ⟨a,cap,h1,h2,h3,h4,?_⟩
 rcases h5 with h5 | ⟨b,off,e,hlt,hc⟩
 ·exact .inl h5
 ·by_cases hl:l=[]
  ·exact .inl hl
  ·have hpos:0 < l.length:=List.length_pos_iff.2 hl
   have hb:¬ b=B:=fun hb => by
    subst hb
    exact hn _ _ (hc 0 hpos).1
   refine .inr ⟨b,off,e,by omega,fun i hi => ?_⟩
   obtain⟨h0,h1,h2,h3,h4,h5⟩:=hc i hi
   exact⟨(cell_far hfar hb).trans h0,(cell_far hfar hb).trans h1,(cell_far hfar hb).trans h2,(cell_far hfar hb).trans h3,(cell_far hfar hb).trans h4,(cell_far hfar hb).trans h5⟩

theorem Tab.nostr {w W:World} {v:Value} {l:List Row} (h:Tab w v l) {B:Nat} (hn:NoStr w B) (hfar:∀ k,¬ k=B→W.heap[k]?=w.heap[k]?) (hs:W.heap.size=w.heap.size):Tab W v l:=by
 obtain⟨a,cap,h1,h2,h3,h4,h5⟩:=h
 refine ⟨a,cap,h1,h2,h3,h4,?_⟩
 rcases h5 with h5 | ⟨b,off,e,hlt,hc⟩
 ·exact .inl h5
 ·by_cases hl:l=[]
  ·exact .inl hl
  ·have hpos:0 < l.length:=List.length_pos_iff.2 hl
   have hb:¬ b=B:=fun hb => by
    subst hb
    exact hn _ _ (hc 0 hpos).1
   refine .inr ⟨b,off,e,by omega,fun i hi => ?_⟩
   obtain⟨h0,h1,h2,h3,h4⟩:=hc i hi
   exact⟨(cell_far hfar hb).trans h0,(cell_far hfar hb).trans h1,(cell_far hfar hb).trans h2,(cell_far hfar hb).trans h3,(cell_far hfar hb).trans h4⟩

theorem Frms.nostr {w W:World} {v:Value} {l:List FrS} (h:Frms w v l) {B:Nat} (hn:NoStr w B) (hfar:∀ k,¬ k=B→W.heap[k]?=w.heap[k]?) (hs:W.heap.size=w.heap.size):Frms W v l:=by
 obtain⟨⟨a,cap,h1,h2,h3,h4,h5⟩,ht⟩:=h
 refine ⟨⟨a,cap,h1,h2,h3,h4,?_⟩,fun p hp => (ht p hp).nostr hn hfar hs⟩
 rcases h5 with h5 | ⟨b,off,e,hlt,hc⟩
 ·exact .inl h5
 ·by_cases hl:l=[]
  ·exact .inl hl
  ·have hpos:0 < l.length:=List.length_pos_iff.2 hl
   have hb:¬ b=B:=fun hb => by
    subst hb
    exact hn _ _ (hc 0 hpos 3 _ rfl)
   exact .inr ⟨b,off,e,by omega,fun i hi j u hu => (cell_far hfar hb).trans (hc i hi j u hu)⟩

def noTx:List Value→Bool:=fun l => l.all fun v => match v with | .string _ => false | _ => true

theorem noTx_str {w:World} {B:Nat} {l:List Value} {T:TypeId} (h:w.heap[B]?=some (.cells l.toArray T (0,0))) (hn:noTx l=true):NoStr w B:=noStr_of h fun v hv s e => by
 have:=List.all_eq_true.1 hn v hv
 rw [e] at this
 cases this

theorem Chgs.sta {w W:World} {v:Value} {l:List Chg} (h:Chgs w v l) {B:Nat} {new old:List Value} {T T2:TypeId} (hs:StA w W B new T) (ho:w.heap[B]?=some (.cells old.toArray T2 (0,0))) (hn:noTx old=true):Chgs W v l:=h.nostr (noTx_str ho hn) hs.far hs.size
theorem Tab.sta {w W:World} {v:Value} {l:List Row} (h:Tab w v l) {B:Nat} {new old:List Value} {T T2:TypeId} (hs:StA w W B new T) (ho:w.heap[B]?=some (.cells old.toArray T2 (0,0))) (hn:noTx old=true):Tab W v l:=h.nostr (noTx_str ho hn) hs.far hs.size
theorem Frms.sta {w W:World} {v:Value} {l:List FrS} (h:Frms w v l) {B:Nat} {new old:List Value} {T T2:TypeId} (hs:StA w W B new T) (ho:w.heap[B]?=some (.cells old.toArray T2 (0,0))) (hn:noTx old=true):Frms W v l:=h.nostr (noTx_str ho hn) hs.far hs.size
end
section
open Go.RowKit

def heldC (X:World) (cs:List (Nat × Nat × Value)):Prop:=∀ p ∈ cs,X.cell? ⟨p.1,p.2.1,none⟩=some p.2.2

theorem heldC_nil (X:World):heldC X []:=fun p h => by cases h
theorem heldC_cons {X:World} {b o:Nat} {v:Value} {cs:List (Nat × Nat × Value)} (h:X.cell? ⟨b,o,none⟩=some v) (ht:heldC X cs):heldC X ((b,o,v) :: cs):=fun p hp => by
 rcases List.mem_cons.1 hp with rfl | hp
 ·exact h
 ·exact ht p hp
theorem heldC_up {W X:World} {cs:List (Nat × Nat × Value)} (hb:Below W.heap.size W X) (h:heldC W cs):heldC X cs:=fun p hp => cellLaterZ (h p hp) hb
theorem heldC_get {X:World} {cs:List (Nat × Nat × Value)} (h:heldC X cs) {b o:Nat} {v:Value} (hm:(b,o,v) ∈ cs):X.cell? ⟨b,o,none⟩=some v:=h _ hm
end
section
open Go.RowKit Go.ChangeMaps Go.MapKept

structure TurnM (w w':World) (B:Nat):Prop where
 far:∀ k,¬ k=B→w'.heap[k]?=w.heap[k]?
 size:w'.heap.size=w.heap.size
 bel:∀ {w0:World} {n:Nat},Below n w0 w→n≤B→Below n w0 w'

theorem turnM_of {w w':World} {B:Nat} (h:w.mapTurned w' B):TurnM w w' B:=by
 obtain⟨es,clock,es',clock',hb,rfl⟩:=h
 have hfar:∀ k,¬ k=B→(setBlock w B (.map es' clock')).heap[k]?=w.heap[k]?:=fun k hk => by
  unfold setBlock
  rw [Array.getElem?_setIfInBounds_ne (by omega)]
 have hsz:(setBlock w B (.map es' clock')).heap.size=w.heap.size:=by
  unfold setBlock
  rw [Array.size_setIfInBounds]
 exact⟨hfar,hsz,fun hb hn => hb.trans ⟨rfl,rfl,rfl,by rw [hsz]; exact Nat.le_refl _,fun k hk => hfar k (by omega)⟩⟩

theorem ChgsAt.map {w:World} {B N:Nat} {l:List Chg} (h:ChgsAt w B N l):∃ es clock,w.heap[B]?=some (.map es clock):=by
 obtain⟨_,_,_,⟨es,clock,hb,_⟩,_⟩:=h
 exact⟨es,clock,hb⟩

theorem ChgsAt.ne {w:World} {B N:Nat} {l:List Chg} (h:ChgsAt w B N l) {k:Nat} {cs:Array Value} {T:TypeId} {fr:Nat × Nat} (hk:w.heap[k]?=some (.cells cs T fr)):¬ k=B:=by
 rintro rfl
 obtain⟨es,clock,hb⟩:=h.map
 rw [hk] at hb
 cases hb

theorem ChgsAt.no2 {w:World} {B N:Nat} {l:List Chg} (h:ChgsAt w B N l):quNo2 l:=by
 obtain⟨_,_,_,_,h,_⟩:=h
 exact h

theorem ChgsAt.nostr {w:World} {B N:Nat} {l:List Chg} (h:ChgsAt w B N l):NoStr w B:=fun o s he => by
 obtain⟨es,clock,hb⟩:=h.map
 simp only [World.cell?,hb] at he
 cases he

theorem TurnM.keep {w w':World} {B N:Nat} {l:List Chg} (ht:TurnM w w' B) (h:ChgsAt w B N l) {k:Nat} {cs:Array Value} {T:TypeId} {fr:Nat × Nat} (hk:w.heap[k]?=some (.cells cs T fr)):w'.heap[k]?=some (.cells cs T fr):=(ht.far k (h.ne hk)).trans hk
theorem TurnM.chgs {w w':World} {B N:Nat} {l t:List Chg} {v:Value} (ht:TurnM w w' B) (h:ChgsAt w B N l) (hv:Chgs w v t):Chgs w' v t:=hv.nostr h.nostr ht.far ht.size
theorem TurnM.frms {w w':World} {B N:Nat} {l:List Chg} {v:Value} {t:List FrS} (ht:TurnM w w' B) (h:ChgsAt w B N l) (hv:Frms w v t):Frms w' v t:=hv.nostr h.nostr ht.far ht.size

theorem ChgsAt.sta {w W:World} {B N:Nat} {l:List Chg} (h:ChgsAt w B N l) {b:Nat} {new old:List Value} {T T2:TypeId} (hs:StA w W b new T) (ho:w.heap[b]?=some (.cells old.toArray T2 (0,0))):ChgsAt W B N l:=h.kept (hs.far B fun e => h.ne ho e.symm)

theorem ChgsAt.more {w:World} {B N M:Nat} {l:List Chg} (h:ChgsAt w B N l) (hm:N≤M):ChgsAt w B M l:=by
 obtain⟨n,D,h1,h2⟩:=h
 exact⟨n,D,by omega,h2⟩

theorem ChgsAt.drew {w:World} {B N:Nat} {l:List Chg} (h:ChgsAt w B N l):ChgsAt w.drew B N l:=h.kept rfl

theorem ChgsAt.put {w:World} {B N:Nat} {l:List Chg} (hown:ChgsAt w B N l) (hN:N≤1000) (c:Chg) (hu:c.c.length≤4294967296) {room:Int} (hp:(quPush ⟨l,false⟩ c room).la=false) :
  ∃ w',(Instr.mapUpdate 37 (.map (some B)) (.string ⟨c.c.toArray⟩) (chgAgg c)).run Try.prog w=.ok () w'∧ChgsAt w' B (N+1) (quPush ⟨l,false⟩ c room).l∧TurnM w w' B:=by
 obtain⟨n,D,h1,h2,h5,h6,h3⟩:=hown
 obtain⟨w',hrun,k6,k7⟩:=h2.store (Maps.string_keyed Try.underlying9) Try.underlying37 (by unfold maxLen; omega) (key_at c.c hu) (chgElem_mk c)
 refine ⟨w',hrun,?_,turnM_of k7⟩
 have hT:=h2.tidy (Maps.string_keyed Try.underlying9)
 have hne:∀ y:List UInt8,¬ y=c.c→(Lit.string y) ≠ .string c.c:=fun y h e => h (by injection e)
 refine ⟨n+1,_,by omega,k6,quPush_no2 (q:=⟨l,false⟩) h5,?_,fun y => ?_⟩
 ·rw [Maps.size_put hT,(h3 c.c).1,h6,quPush_count hp]
  by_cases h:quHas l c.c=true <;> simp [h]
 ·by_cases e:y=c.c
  ·subst e
   rw [Maps.has_put_same hT.isMap (show WideAt.IsKeyLit (.string c.c) from True.intro),Maps.atKey_put_same hT.isMap (show WideAt.IsKeyLit (.string c.c) from True.intro),find_push_same hp]
   exact⟨(quPush_there hp).2.1.symm,rfl⟩
  ·rw [Maps.has_put_other (hne y e),Maps.atKey_put_other (hne y e),(h3 y).1,(h3 y).2,find_push_other h5 hp e]
   exact⟨(quPush_has hp y e).symm,rfl⟩

theorem wp_chg_putX {w:World} {o:Oper} {a:Act} {K:Act→World→Prop} {Q:Exit→Act→World→Prop} (m x v:Operand) (hop:o.op=Op.mapUpdate 37 m x v) (B N:Nat) (l:List Chg) (hm:a.eval m=.map (some B)) (hown:ChgsAt w B N l) (hN:N≤1000)
  (c:Chg) (hu:c.c.length≤4294967296) (hx:a.eval x=.string ⟨c.c.toArray⟩) (hv:a.eval v=chgAgg c) {room:Int} (hp:(quPush ⟨l,false⟩ c room).la=false)
  (hK:∀ w',ChgsAt w' B (N+1) (quPush ⟨l,false⟩ c room).l→TurnM w w' B→K (a.put o.dst undef) w'):o.wp Try.prog a w K Q:=by
 obtain⟨w',hrun,k1,k2⟩:=hown.put hN c hu hp
 unfold Oper.wp
 simp [execOp,hop,hm,hx,hv,hrun,Result.andThen]
 exact hK w' k1 k2

theorem heldC_farM {X W:World} {cs:List (Nat × Nat × Value)} {B:Nat} (h:heldC X cs) (hfar:∀ k,¬ k=B→W.heap[k]?=X.heap[k]?) (hn:∀ p ∈ cs,¬ p.1=B):heldC W cs:=fun p hp =>
 (World.cell?_of_block (hfar p.1 (hn p hp))).trans (h p hp)
end
section
open Go.RowKit

theorem six_new (w:World) (a b c d e f:Value) (t:TypeId):(w.alloc (.cells #[a,b,c,d,e,f] t)).cell? ⟨w.heap.size,0,none⟩=some a∧(w.alloc (.cells #[a,b,c,d,e,f] t)).cell? ⟨w.heap.size,1,none⟩=some b∧(w.alloc (.cells #[a,b,c,d,e,f] t)).cell? ⟨w.heap.size,2,none⟩=some c∧(w.alloc (.cells #[a,b,c,d,e,f] t)).cell? ⟨w.heap.size,3,none⟩=some d∧(w.alloc (.cells #[a,b,c,d,e,f] t)).cell? ⟨w.heap.size,4,none⟩=some e∧(w.alloc (.cells #[a,b,c,d,e,f] t)).cell? ⟨w.heap.size,5,none⟩=some f:=six_cells w a b c d e f t

theorem zero_eql (a b d:Int) (st:List UInt8) {r:Bool} (h:vSame ⟨a,b,d,st⟩ Val.zero=r) (w:World) :
  (binOp .eql 40 (.agg #[.int .i64 a,.int .i64 b,.int .i64 d,.string ⟨st.toArray⟩]) (.agg #[.int .i64 0,.int .i64 0,.int .i64 0,.string ⟨#[]⟩])).run Try.prog w=.ok (.bool r) w:=by
 have:=val_eql5 a b d 0 0 0 st [] w
 rw [show (⟨0,0,0,[]⟩ : Val)=Val.zero from rfl,h] at this
 exact this

theorem quone_is (c st:List UInt8) (on:Bool) (a b d:Int) (hc:c.length≤4294967296) (h:idIs c=false) (w:World) :
  Calls Try.prog 52 #[.agg #[.string ⟨c.toArray⟩,.bool on,.int .i64 a,.int .i64 b,.int .i64 d,.string ⟨st.toArray⟩]] w fun e w' => e=.returned (.bool false)∧Below w.heap.size w w':=by
 have b0:=bl_newZ w (.cells #[.string ⟨c.toArray⟩,.bool on,.int .i64 a,.int .i64 b,.int .i64 d,.string ⟨st.toArray⟩] 42)
 have HB:=hZq b0
 have C:Hid (Cells6 (w.alloc (.cells #[.string ⟨c.toArray⟩,.bool on,.int .i64 a,.int .i64 b,.int .i64 d,.string ⟨st.toArray⟩] 42)) w.heap.size 0 ⟨c,on,⟨a,b,d,st⟩⟩):=hZq (six_new w _ _ _ _ _ _ _)
 have hlt:=Nat.lt_succ_self w.heap.size
 clear b0
 have HH:=hZq h
 clear h
 go_enter Try.func52,Try.ntmps52
 go_wp2_with fail
 refine (is_eq c hc HH _).mono ?_
 rintro e w1 ⟨rfl,b1⟩
 replace C:=hZq (C.out.later b1 (by simp))
 replace HB:=hZq (below2Z HB.out b1)
 clear b1
 obtain⟨q0,q1,q2,q3,q4,q5⟩:=C.out
 simp only [Nat.zero_add] at q1 q2 q3 q4 q5
 go_wp2_with fail
 go_ret
 exact⟨rfl,HB.out⟩

theorem quone_on (c st:List UInt8) (a b d:Int) (hc:c.length≤4294967296) (hs:st.length≤4294967296) (h:idIs c=true) {r:Bool} (hr:vaMay ⟨a,b,d,st⟩=r) (w:World) :
  Calls Try.prog 52 #[.agg #[.string ⟨c.toArray⟩,.bool true,.int .i64 a,.int .i64 b,.int .i64 d,.string ⟨st.toArray⟩]] w fun e w' => e=.returned (.bool r)∧Below w.heap.size w w':=by
 have b0:=bl_newZ w (.cells #[.string ⟨c.toArray⟩,.bool true,.int .i64 a,.int .i64 b,.int .i64 d,.string ⟨st.toArray⟩] 42)
 have HB:=hZq b0
 have C:Hid (Cells6 (w.alloc (.cells #[.string ⟨c.toArray⟩,.bool true,.int .i64 a,.int .i64 b,.int .i64 d,.string ⟨st.toArray⟩] 42)) w.heap.size 0 ⟨c,true,⟨a,b,d,st⟩⟩):=hZq (six_new w _ _ _ _ _ _ _)
 have hlt:=Nat.lt_succ_self w.heap.size
 clear b0
 have HH:=hZq h
 have HR:=hZq hr
 clear h hr
 go_enter Try.func52,Try.ntmps52
 go_wp2_with fail
 refine (is_eq c hc HH _).mono ?_
 rintro e w1 ⟨rfl,b1⟩
 replace C:=hZq (C.out.later b1 (by simp))
 replace HB:=hZq (below2Z HB.out b1)
 clear b1
 obtain⟨q0,q1,q2,q3,q4,q5⟩:=C.out
 simp only [Nat.zero_add] at q1 q2 q3 q4 q5
 go_wp2_with fail
 refine (may_eq a b d st hs HR _).mono ?_
 rintro e w2 ⟨rfl,b2⟩
 replace HB:=hZq (below2Z HB.out b2)
 clear b2
 go_wp2_with fail
 go_ret
 exact⟨rfl,HB.out⟩

theorem quone_off (c st:List UInt8) (a b d:Int) (hc:c.length≤4294967296) (h:idIs c=true) {r:Bool} (hr:vSame ⟨a,b,d,st⟩ Val.zero=r) (w:World) :
  Calls Try.prog 52 #[.agg #[.string ⟨c.toArray⟩,.bool false,.int .i64 a,.int .i64 b,.int .i64 d,.string ⟨st.toArray⟩]] w fun e w' => e=.returned (.bool r)∧Below w.heap.size w w':=by
 have b0:=bl_newZ w (.cells #[.string ⟨c.toArray⟩,.bool false,.int .i64 a,.int .i64 b,.int .i64 d,.string ⟨st.toArray⟩] 42)
 have HB:=hZq b0
 have C:Hid (Cells6 (w.alloc (.cells #[.string ⟨c.toArray⟩,.bool false,.int .i64 a,.int .i64 b,.int .i64 d,.string ⟨st.toArray⟩] 42)) w.heap.size 0 ⟨c,false,⟨a,b,d,st⟩⟩):=hZq (six_new w _ _ _ _ _ _ _)
 have hlt:=Nat.lt_succ_self w.heap.size
 clear b0
 have HH:=hZq h
 have heq:=fun w => zero_eql a b d st hr w
 have hgd:Try.prog.eqGuardType Try.prog.depth 40=false:=by kernel_rfl
 clear h hr
 go_enter Try.func52,Try.ntmps52
 go_wp2_with fail
 refine (is_eq c hc HH _).mono ?_
 rintro e w1 ⟨rfl,b1⟩
 replace C:=hZq (C.out.later b1 (by simp))
 replace HB:=hZq (below2Z HB.out b1)
 clear b1
 obtain⟨q0,q1,q2,q3,q4,q5⟩:=C.out
 simp only [Nat.zero_add] at q1 q2 q3 q4 q5
 go_wp2_with fail
 go_ret
 exact⟨rfl,HB.out⟩

theorem quone_any (c st:List UInt8) (on:Bool) (a b d:Int) (hc:c.length≤4294967296) (hs:st.length≤4294967296) {r:Bool} (h:Hid (quOne ⟨c,on,⟨a,b,d,st⟩⟩=r)) (w:World) :
  Calls Try.prog 52 #[.agg #[.string ⟨c.toArray⟩,.bool on,.int .i64 a,.int .i64 b,.int .i64 d,.string ⟨st.toArray⟩]] w fun e w' => e=.returned (.bool r)∧Below w.heap.size w w':=by
 have h:=h.out
 unfold quOne at h
 simp only at h
 cases hi:idIs c with
 | false =>
  rw [hi,Bool.false_and] at h
  subst h
  exact quone_is c st on a b d hc hi w
 | true =>
  rw [hi,Bool.true_and] at h
  cases on with
  | true =>
   rw [if_pos rfl] at h
   exact quone_on c st a b d hc hs hi h w
  | false =>
   rw [if_neg (by simp)] at h
   exact quone_off c st a b d hc hi h w

theorem rquone_is (c st:List UInt8) (on:Bool) (a b d:Int) (hc:c.length≤4294967296) (h:idIs c=false) (w:World) :
  Calls Try.prog 8 #[.agg #[.string ⟨c.toArray⟩,.bool on,.int .i64 a,.int .i64 b,.int .i64 d,.string ⟨st.toArray⟩]] w fun e w' => e=.returned (.bool false)∧Below w.heap.size w w':=by
 have b0:=bl_newZ w (.cells #[.string ⟨c.toArray⟩,.bool on,.int .i64 a,.int .i64 b,.int .i64 d,.string ⟨st.toArray⟩] 42)
 have HB:=hZq b0
 have C:Hid (Cells6 (w.alloc (.cells #[.string ⟨c.toArray⟩,.bool on,.int .i64 a,.int .i64 b,.int .i64 d,.string ⟨st.toArray⟩] 42)) w.heap.size 0 ⟨c,on,⟨a,b,d,st⟩⟩):=hZq (six_new w _ _ _ _ _ _ _)
 have hlt:=Nat.lt_succ_self w.heap.size
 clear b0
 have HH:=hZq h
 clear h
 go_enter Try.func8,Try.ntmps8
 go_wp2_with fail
 refine (ris_eq c hc HH _).mono ?_
 rintro e w1 ⟨rfl,rfl⟩
 go_wp2_with fail
 go_ret
 exact⟨rfl,HB.out⟩

theorem rquone_on (c st:List UInt8) (a b d:Int) (hc:c.length≤4294967296) (hs:st.length≤4294967296) (h:idIs c=true) {r:Bool} (hr:vaMay ⟨a,b,d,st⟩=r) (w:World) :
  Calls Try.prog 8 #[.agg #[.string ⟨c.toArray⟩,.bool true,.int .i64 a,.int .i64 b,.int .i64 d,.string ⟨st.toArray⟩]] w fun e w' => e=.returned (.bool r)∧Below w.heap.size w w':=by
 have b0:=bl_newZ w (.cells #[.string ⟨c.toArray⟩,.bool true,.int .i64 a,.int .i64 b,.int .i64 d,.string ⟨st.toArray⟩] 42)
 have HB:=hZq b0
 have C:Hid (Cells6 (w.alloc (.cells #[.string ⟨c.toArray⟩,.bool true,.int .i64 a,.int .i64 b,.int .i64 d,.string ⟨st.toArray⟩] 42)) w.heap.size 0 ⟨c,true,⟨a,b,d,st⟩⟩):=hZq (six_new w _ _ _ _ _ _ _)
 have hlt:=Nat.lt_succ_self w.heap.size
 clear b0
 have HH:=hZq h
 have HR:=hZq hr
 clear h hr
 go_enter Try.func8,Try.ntmps8
 go_wp2_with fail
 refine (ris_eq c hc HH _).mono ?_
 rintro e w1 ⟨rfl,rfl⟩
 go_wp2_with fail
 refine (rmay_eq a b d st hs HR _).mono ?_
 rintro e w2 ⟨rfl,b2⟩
 replace HB:=hZq (below2Z HB.out b2)
 clear b2
 go_wp2_with fail
 go_ret
 exact⟨rfl,HB.out⟩

theorem rquone_off (c st:List UInt8) (a b d:Int) (hc:c.length≤4294967296) (h:idIs c=true) {r:Bool} (hr:vSame ⟨a,b,d,st⟩ Val.zero=r) (w:World) :
  Calls Try.prog 8 #[.agg #[.string ⟨c.toArray⟩,.bool false,.int .i64 a,.int .i64 b,.int .i64 d,.string ⟨st.toArray⟩]] w fun e w' => e=.returned (.bool r)∧Below w.heap.size w w':=by
 have b0:=bl_newZ w (.cells #[.string ⟨c.toArray⟩,.bool false,.int .i64 a,.int .i64 b,.int .i64 d,.string ⟨st.toArray⟩] 42)
 have HB:=hZq b0
 have C:Hid (Cells6 (w.alloc (.cells #[.string ⟨c.toArray⟩,.bool false,.int .i64 a,.int .i64 b,.int .i64 d,.string ⟨st.toArray⟩] 42)) w.heap.size 0 ⟨c,false,⟨a,b,d,st⟩⟩):=hZq (six_new w _ _ _ _ _ _ _)
 have hlt:=Nat.lt_succ_self w.heap.size
 clear b0
 have HH:=hZq h
 have heq:=fun w => zero_eql a b d st hr w
 have hgd:Try.prog.eqGuardType Try.prog.depth 40=false:=by kernel_rfl
 clear h hr
 go_enter Try.func8,Try.ntmps8
 go_wp2_with fail
 refine (ris_eq c hc HH _).mono ?_
 rintro e w1 ⟨rfl,rfl⟩
 go_wp2_with fail
 go_ret
 exact⟨rfl,HB.out⟩

theorem rquone_any (c st:List UInt8) (on:Bool) (a b d:Int) (hc:c.length≤4294967296) (hs:st.length≤4294967296) {r:Bool} (h:Hid (quOne ⟨c,on,⟨a,b,d,st⟩⟩=r)) (w:World) :
  Calls Try.prog 8 #[.agg #[.string ⟨c.toArray⟩,.bool on,.int .i64 a,.int .i64 b,.int .i64 d,.string ⟨st.toArray⟩]] w fun e w' => e=.returned (.bool r)∧Below w.heap.size w w':=by
 have h:=h.out
 unfold quOne at h
 simp only at h
 cases hi:idIs c with
 | false =>
  rw [hi,Bool.false_and] at h
  subst h
  exact rquone_is c st on a b d hc hi w
 | true =>
  rw [hi,Bool.true_and] at h
  cases on with
  | true =>
   rw [if_pos rfl] at h
   exact rquone_on c st a b d hc hs hi h w
  | false =>
   rw [if_neg (by simp)] at h
   exact rquone_off c st a b d hc hi h w
end
section
open Go.RowKit
end
section
open Go.RowKit

theorem chg_take {l:List Chg} {k:Nat} (hk:k < l.length):(l.map (·.c)).take (k+1)=(l.map (·.c)).take k ++ [(l.getD k Chg.zero).c]:=by
 rw [List.take_add_one,List.getElem?_map,List.getElem?_eq_getElem hk,List.getD_eq_getElem?_getD,List.getElem?_eq_getElem hk]
 rfl

def ctcAt (l:List Chg) (k:Nat):List (List UInt8):=(l.map (·.c)).take k ++ List.replicate (l.length - k) []
theorem ctcAt_len {l:List Chg} {k:Nat} (h:k≤l.length):(ctcAt l k).length=l.length:=by unfold ctcAt; rw [List.length_append,List.length_take,List.length_map,List.length_replicate]; omega
theorem ctcAt_set {l:List Chg} {k:Nat} (hk:k < l.length):(ctcAt l k).set k (l.getD k Chg.zero).c=ctcAt l (k+1):=by
 unfold ctcAt
 have h1:((l.map (·.c)).take k).length=k:=by rw [List.length_take,List.length_map]; omega
 rw [List.set_append_right _ _ (by omega),h1,Nat.sub_self,show l.length - k=(l.length - (k+1))+1 by omega,List.replicate_succ,List.set_cons_zero,chg_take hk]
 simp
theorem ctcAt_end (l:List Chg):ctcAt l l.length=l.map (·.c):=by
 unfold ctcAt
 rw [Nat.sub_self,List.take_of_length_le (by rw [List.length_map]; omega)]
 simp

theorem qumay_long {l:List Chg} {la:Bool} {room:Int} (h:room < (l.length:Int)):quMay ⟨l,la⟩ room=false:=by
 rw [Bool.eq_false_iff]
 intro e
 have:=(quMay_iff.1 e).1
 simp only at this
 omega
theorem qumay_la {l:List Chg} {room:Int} (h:0 < l.length):quMay ⟨l,true⟩ room=false:=by
 rw [Bool.eq_false_iff]
 intro e
 have:=(quMay_iff.1 e).2.1 rfl
 simp only at this
 rw [this] at h
 simp at h
theorem qumay_one {l:List Chg} {la:Bool} {room:Int} {k:Nat} (hk:k < l.length) (h:quOne (l.getD k Chg.zero)=false):quMay ⟨l,la⟩ room=false:=by
 rw [Bool.eq_false_iff]
 intro e
 have:=(quMay_iff.1 e).2.2.1 _ (List.getElem_mem hk)
 rw [List.getD_eq_getElem?_getD,List.getElem?_eq_getElem hk] at h
 simp only [Option.getD_some] at h
 rw [h] at this
 cases this
theorem qumay_end {l:List Chg} {la:Bool} {room:Int} (h1:(l.length:Int)≤room) (h2:la=true→l=[]) (h3:∀ i,i < l.length→quOne (l.getD i Chg.zero)=true):quMay ⟨l,la⟩ room=decide (quNo2 l):=by
 rw [Bool.eq_iff_iff,quMay_iff,decide_eq_true_eq]
 refine ⟨fun h => h.2.2.2,fun h => ⟨h1,h2,fun c hc => ?_,h⟩⟩
 obtain⟨i,hi,rfl⟩:=List.getElem_of_mem hc
 have:=h3 i hi
 rwa [List.getD_eq_getElem?_getD,List.getElem?_eq_getElem hi] at this
theorem queach_any {w:World} {v:Value} {l:List Chg} (hv:Chgs w v l) (hl:l.length≤100) :
  Calls Try.prog 53 #[v] w fun e w' => e=.returned (.bool (decide (quNo2 l)))∧Below w.heap.size w w':=by
 have HV:=hZq hv
 obtain⟨a,cap,rfl,_⟩:=hv.open'
 obtain⟨r,hr⟩ : ∃ r,decide (quNo2 l)=r:=⟨_,rfl⟩
 rw [hr]
 have HRR:=hZq hr
 clear hv hr
 go_enter Try.func53,Try.ntmps53
 go_wp2_with (at_make; go_must (refine wpList_make_texts rfl _ _ rfl _ _ l.length rfl rfl (by omega) (by omega) (by omega) ?_))
 intro w1 h1 hb1 hz1
 have R1:Hid (RowT w1 w.heap.size (ctcAt l 0)):=by show RowT _ _ _; simpa [ctcAt] using h1
 have B1:=hZq hb1
 clear h1 hb1
 go_wp2_with fail
 go_loopw [11] (fun i wr => ∃ k:Nat,k≤l.length∧i=.int .i64 k∧Hid (RowT wr w.heap.size (ctcAt l k))∧Hid (Below w.heap.size w wr)∧w.heap.size < wr.heap.size) (fun i _ => l.length - (intOf i).toNat)
 case atStart => exact⟨0,by omega,rfl,R1,B1,hz1⟩
 case round =>
  clear R1 B1 hz1
  obtain⟨k,hk,rfl,HR,HN,hz⟩:=hrel
  by_cases hlt:k < l.length
  ·obtain⟨b,off,rfl,h0,h1,h2,h3,h4,h5⟩:=HV.out.row HN.out k hlt
   have HS:=HR.out.set k (l.getD k Chg.zero).c (by rw [ctcAt_len (by omega)]; exact hlt)
   rw [ctcAt_set hlt] at HS
   have hc0:=(HR.out k (by rw [ctcAt_len (by omega)]; exact hlt)).1
   have hf0:=(HR.out k (by rw [ctcAt_len (by omega)]; exact hlt)).2
   obtain⟨⟨c,o,⟨x,y,z,st⟩⟩,hr⟩ : ∃ r,l.getD k Chg.zero=r:=⟨_,rfl⟩
   rw [hr] at h0 h1 h2 h3 h4 h5 HS
   simp only at h0 h1 h2 h3 h4 h5 HS
   unfold encS at HS hc0
   have HS2:=hZq HS
   have HN2:Hid (Below w.heap.size w (wr.setCell ⟨w.heap.size,k,none⟩ (.string ⟨c.toArray⟩))):=HN.out.setCell (Nat.le_refl _) _
   have hz2:w.heap.size < (wr.setCell ⟨w.heap.size,k,none⟩ (.string ⟨c.toArray⟩)).heap.size:=by simpa using hz
   have HS3:=hZq (HS2.out.later hz2 ((Below.refl _ _).alloc (Nat.le_refl _) (.cells #[.string ⟨c.toArray⟩,.bool o,.int .i64 x,.int .i64 y,.int .i64 z,.string ⟨st.toArray⟩] 42)))
   have HN3:=hZq (bl_alloc HN2.out (.cells #[.string ⟨c.toArray⟩,.bool o,.int .i64 x,.int .i64 y,.int .i64 z,.string ⟨st.toArray⟩] 42))
   clear hr HS
   go_wp2_with fail
   go_roundw
   case rel => exact⟨k+1,by omega,by go_num,HS3,HN3,by simp; omega⟩
   case measure => simp [intOf]; omega
  ·obtain rfl:k=l.length:=by omega
   have HT:Hid (Texts wr (.slice (some ⟨w.heap.size,0,none⟩) l.length l.length) (l.map (·.c))):=by
    show Texts _ _ _
    have:=HR.out
    rw [ctcAt_end] at this
    have h2:=this.texts hz (by rw [List.length_map]; omega)
    rwa [List.length_map] at h2
   have HF:Hid (decide (((mrg (l.map (·.c) ++ [])).length:Int)=(l.length:Int))=r):=by
    show _=_
    rw [← HRR.out,List.append_nil,decide_eq_decide]
    have:=mrg_full (l.map (·.c))
    rw [List.length_map] at this
    unfold quNo2
    rw [← this]
    omega
   go_wp2_with fail
   refine (merge_any HT.out (texts_nil _) (by rw [List.length_map]; exact hl) (by simp)).mono ?_
   rintro e w2 ⟨u,rfl,ht,b2⟩
   obtain⟨au,cu,rfl⟩ : ∃ a c,u=.slice a (mrg (l.map (·.c) ++ [])).length c:=by
    obtain⟨a',c',e,_⟩:=ht
    exact⟨a',c',e⟩
   have HN2:=hZq (HN.out.trans (b2.mono HN.out.size))
   obtain⟨m,hm⟩ : ∃ m,(mrg (l.map (·.c) ++ [])).length=m:=⟨_,rfl⟩
   rw [hm] at HF
   try rw [hm]
   clear b2 ht hm
   have ht1:=HF.out
   have t2:(((m:Nat):Int) == (l.length:Int))=r:=by rw [← ht1]; rfl
   clear HF ht1
   go_wp2_with fail
   go_ret
   first | exact⟨rfl,HN2.out⟩ | exact⟨by rw [← t2]; rfl,HN2.out⟩

theorem qumay_1 {w:World} {v:Value} {l:List Chg} (hv:Chgs w v l) (la:Bool) {room:Int} (h:room < (l.length:Int)) :
  Calls Try.prog 43 #[.agg #[v,.bool la],.int .i64 room] w fun e w' => e=.returned (.bool false)∧Below w.heap.size w w':=by
 obtain⟨ao,cap,rfl,hmx⟩:=hv.open'
 have b0:=bl_newZ w (.cells #[.slice ao l.length cap,.bool la] 29)
 have HV:=hZq (hv.later b0)
 have HB:=hZq b0
 have HQ:=hZq ((MapKept.heap_alloc w (.cells #[.slice ao l.length cap,.bool la] 29)).1)
 clear hv b0
 have t1:decide (room < (l.length:Int))=true:=decide_eq_true h
 go_enter Try.func43,Try.ntmps43
 go_wp2_with fail
 go_ret
 exact⟨rfl,HB.out⟩

theorem qumay_2 {w:World} {v:Value} {l:List Chg} (hv:Chgs w v l) {room:Int} (h:¬ room < (l.length:Int)) (h0:0 < l.length) :
  Calls Try.prog 43 #[.agg #[v,.bool true],.int .i64 room] w fun e w' => e=.returned (.bool false)∧Below w.heap.size w w':=by
 obtain⟨ao,cap,rfl,hmx⟩:=hv.open'
 have b0:=bl_newZ w (.cells #[.slice ao l.length cap,.bool true] 29)
 have HV:=hZq (hv.later b0)
 have HB:=hZq b0
 have HQ:=hZq ((MapKept.heap_alloc w (.cells #[.slice ao l.length cap,.bool true] 29)).1)
 clear hv b0
 have t1:decide (room < (l.length:Int))=false:=decide_eq_false h
 have t2:decide ((0:Int) < (l.length:Int))=true:=decide_eq_true (by omega)
 have t3:decide (0 < l.length)=true:=decide_eq_true h0
 clear h
 go_enter Try.func43,Try.ntmps43
 go_wp2_with fail
 go_ret
 exact⟨rfl,HB.out⟩

theorem qumay_3 {w:World} {v:Value} {l:List Chg} (hv:Chgs w v l) (hs:ShortC l) (hl:l.length≤100) {room:Int} (h:¬ room < (l.length:Int)) :
  Calls Try.prog 43 #[.agg #[v,.bool false],.int .i64 room] w fun e w' => e=.returned (.bool (quMay ⟨l,false⟩ room))∧Below w.heap.size w w':=by
 obtain⟨ao,cap,rfl,hmx⟩:=hv.open'
 have b0:=bl_newZ w (.cells #[.slice ao l.length cap,.bool false] 29)
 have HV:=hZq (hv.later b0)
 have HB:=hZq b0
 have HQ:=hZq ((MapKept.heap_alloc w (.cells #[.slice ao l.length cap,.bool false] 29)).1)
 clear hv b0
 have t1:decide (room < (l.length:Int))=false:=decide_eq_false h
 have HR:Hid ((l.length:Int)≤room):=hZq (by omega)
 have HS:=hZq hs
 clear h hs
 go_enter Try.func43,Try.ntmps43
 go_wp2_with fail
 clear t1
 go_loopw [25] (fun i wr => ∃ k:Nat,k≤l.length∧i=.int .i64 k∧Hid (Below (w.alloc (.cells #[.slice ao l.length cap,.bool false] 29)).heap.size (w.alloc (.cells #[.slice ao l.length cap,.bool false] 29)) wr)∧Hid (∀ i,i < k→quOne (l.getD i Chg.zero)=true)) (fun i _ => l.length - (intOf i).toNat)
 case atStart => exact⟨0,by omega,rfl,Below.refl _ _,fun i hi => by omega⟩
 case round =>
  obtain⟨k,hk,rfl,HN,HA⟩:=hrel
  by_cases hlt:k < l.length
  ·obtain⟨b,off,rfl,h0,h1,h2,h3,h4,h5⟩:=HV.out.row HN.out k hlt
   have hx:=(HN.out.block w.heap.size (by simp)).trans HQ.out
   have q0:=cell_of_row wr w.heap.size 0 _ _ (0,0) hx
   have q1:=cell_of_row wr w.heap.size 1 _ _ (0,0) hx
   try simp only at q0 q1
   obtain⟨hl1,hl2⟩:=HS.out.get hlt
   obtain⟨⟨c,o,⟨x,y,z,st⟩⟩,hr⟩ : ∃ r,l.getD k Chg.zero=r:=⟨_,rfl⟩
   rw [hr] at h0 h1 h2 h3 h4 h5 hl1 hl2
   simp only at h0 h1 h2 h3 h4 h5 hl1 hl2
   have HRr:=hZq hr
   clear hr
   cases hone:quOne ⟨c,o,⟨x,y,z,st⟩⟩ with
   | false =>
    have HF:Hid (quMay ⟨l,false⟩ room=false):=qumay_one hlt (by rw [HRr.out]; exact hone)
    have H1:=hZq hone
    clear hone
    go_wp2_with fail
    refine (quone_any c st o x y z hl1 hl2 H1 _).mono ?_
    rintro e w2 ⟨rfl,b2⟩
    have HN2:=hZq ((below2Z HN.out (bl_newZ wr (.cells #[.string ⟨c.toArray⟩,.bool o,.int .i64 x,.int .i64 y,.int .i64 z,.string ⟨st.toArray⟩] 42))).trans (b2.mono (Nat.le_trans HN.out.size (by simp))))
    clear b2
    go_wp2_with fail
    go_ret
    exact⟨by rw [HF.out]; rfl,below2Z HB.out HN2.out⟩
   | true =>
    have H1:=hZq hone
    have HA2:Hid (∀ i,i < k+1→quOne (l.getD i Chg.zero)=true):=hZq fun i hi => by
     rcases Nat.lt_or_eq_of_le (Nat.le_of_lt_succ hi) with h | h
     ·exact HA.out i h
     ·subst h; rw [HRr.out]; exact hone
    clear hone
    go_wp2_with fail
    refine (quone_any c st o x y z hl1 hl2 H1 _).mono ?_
    rintro e w2 ⟨rfl,b2⟩
    have HN2:=hZq ((below2Z HN.out (bl_newZ wr (.cells #[.string ⟨c.toArray⟩,.bool o,.int .i64 x,.int .i64 y,.int .i64 z,.string ⟨st.toArray⟩] 42))).trans (b2.mono (Nat.le_trans HN.out.size (by simp))))
    clear b2
    go_wp2_with fail
    go_roundw
    case rel => exact⟨k+1,by omega,by go_num,HN2,HA2⟩
    case measure => simp [intOf]; omega
  ·obtain rfl:k=l.length:=by omega
   have hx:=(HN.out.block w.heap.size (by simp)).trans HQ.out
   have q0:=cell_of_row wr w.heap.size 0 _ _ (0,0) hx
   have q1:=cell_of_row wr w.heap.size 1 _ _ (0,0) hx
   try simp only at q0 q1
   have HF:Hid (quMay ⟨l,false⟩ room=decide (quNo2 l)):=qumay_end HR.out (fun e => by cases e) HA.out
   go_wp2_with fail
   refine (queach_any (HV.out.later HN.out) hl).mono ?_
   rintro e w2 ⟨rfl,b2⟩
   have HN2:=hZq (HN.out.trans (b2.mono HN.out.size))
   clear b2
   go_wp2_with fail
   go_ret
   exact⟨by rw [HF.out]; rfl,below2Z HB.out HN2.out⟩

theorem qumay_4 {w:World} {v:Value} {l:List Chg} (hv:Chgs w v l) (hs:ShortC l) (hl:l.length≤100) {room:Int} (h:¬ room < (l.length:Int)) (h0:l=[]) :
  Calls Try.prog 43 #[.agg #[v,.bool true],.int .i64 room] w fun e w' => e=.returned (.bool (quMay ⟨l,true⟩ room))∧Below w.heap.size w w':=by
 obtain⟨ao,cap,rfl,hmx⟩:=hv.open'
 have b0:=bl_newZ w (.cells #[.slice ao l.length cap,.bool true] 29)
 have HV:=hZq (hv.later b0)
 have HB:=hZq b0
 have HQ:=hZq ((MapKept.heap_alloc w (.cells #[.slice ao l.length cap,.bool true] 29)).1)
 clear hv b0
 have t1:decide (room < (l.length:Int))=false:=decide_eq_false h
 have t2:decide ((0:Int) < (l.length:Int))=false:=decide_eq_false (by rw [h0]; simp)
 have t3:decide (0 < l.length)=false:=decide_eq_false (by rw [h0]; simp)
 have HE:=hZq h0
 clear h0
 have HR:Hid ((l.length:Int)≤room):=hZq (by omega)
 have HS:=hZq hs
 clear h hs
 go_enter Try.func43,Try.ntmps43
 go_wp2_with fail
 clear t1 t2 t3
 go_loopw [25] (fun i wr => ∃ k:Nat,k≤l.length∧i=.int .i64 k∧Hid (Below (w.alloc (.cells #[.slice ao l.length cap,.bool true] 29)).heap.size (w.alloc (.cells #[.slice ao l.length cap,.bool true] 29)) wr)∧Hid (∀ i,i < k→quOne (l.getD i Chg.zero)=true)) (fun i _ => l.length - (intOf i).toNat)
 case atStart => exact⟨0,by omega,rfl,Below.refl _ _,fun i hi => by omega⟩
 case round =>
  obtain⟨k,hk,rfl,HN,HA⟩:=hrel
  by_cases hlt:k < l.length
  ·obtain⟨b,off,rfl,h0,h1,h2,h3,h4,h5⟩:=HV.out.row HN.out k hlt
   have hx:=(HN.out.block w.heap.size (by simp)).trans HQ.out
   have q0:=cell_of_row wr w.heap.size 0 _ _ (0,0) hx
   have q1:=cell_of_row wr w.heap.size 1 _ _ (0,0) hx
   try simp only at q0 q1
   obtain⟨hl1,hl2⟩:=HS.out.get hlt
   obtain⟨⟨c,o,⟨x,y,z,st⟩⟩,hr⟩ : ∃ r,l.getD k Chg.zero=r:=⟨_,rfl⟩
   rw [hr] at h0 h1 h2 h3 h4 h5 hl1 hl2
   simp only at h0 h1 h2 h3 h4 h5 hl1 hl2
   have HRr:=hZq hr
   clear hr
   cases hone:quOne ⟨c,o,⟨x,y,z,st⟩⟩ with
   | false =>
    have HF:Hid (quMay ⟨l,true⟩ room=false):=qumay_one hlt (by rw [HRr.out]; exact hone)
    have H1:=hZq hone
    clear hone
    go_wp2_with fail
    refine (quone_any c st o x y z hl1 hl2 H1 _).mono ?_
    rintro e w2 ⟨rfl,b2⟩
    have HN2:=hZq ((below2Z HN.out (bl_newZ wr (.cells #[.string ⟨c.toArray⟩,.bool o,.int .i64 x,.int .i64 y,.int .i64 z,.string ⟨st.toArray⟩] 42))).trans (b2.mono (Nat.le_trans HN.out.size (by simp))))
    clear b2
    go_wp2_with fail
    go_ret
    exact⟨by rw [HF.out]; rfl,below2Z HB.out HN2.out⟩
   | true =>
    have H1:=hZq hone
    have HA2:Hid (∀ i,i < k+1→quOne (l.getD i Chg.zero)=true):=hZq fun i hi => by
     rcases Nat.lt_or_eq_of_le (Nat.le_of_lt_succ hi) with h | h
     ·exact HA.out i h
     ·subst h; rw [HRr.out]; exact hone
    clear hone
    go_wp2_with fail
    refine (quone_any c st o x y z hl1 hl2 H1 _).mono ?_
    rintro e w2 ⟨rfl,b2⟩
    have HN2:=hZq ((below2Z HN.out (bl_newZ wr (.cells #[.string ⟨c.toArray⟩,.bool o,.int .i64 x,.int .i64 y,.int .i64 z,.string ⟨st.toArray⟩] 42))).trans (b2.mono (Nat.le_trans HN.out.size (by simp))))
    clear b2
    go_wp2_with fail
    go_roundw
    case rel => exact⟨k+1,by omega,by go_num,HN2,HA2⟩
    case measure => simp [intOf]; omega
  ·obtain rfl:k=l.length:=by omega
   have hx:=(HN.out.block w.heap.size (by simp)).trans HQ.out
   have q0:=cell_of_row wr w.heap.size 0 _ _ (0,0) hx
   have q1:=cell_of_row wr w.heap.size 1 _ _ (0,0) hx
   try simp only at q0 q1
   have HF:Hid (quMay ⟨l,true⟩ room=decide (quNo2 l)):=qumay_end HR.out (fun _ => HE.out) HA.out
   go_wp2_with fail
   refine (queach_any (HV.out.later HN.out) hl).mono ?_
   rintro e w2 ⟨rfl,b2⟩
   have HN2:=hZq (HN.out.trans (b2.mono HN.out.size))
   clear b2
   go_wp2_with fail
   go_ret
   exact⟨by rw [HF.out]; rfl,below2Z HB.out HN2.out⟩

theorem qumay_any {w:World} {v:Value} {l:List Chg} (hv:Chgs w v l) (hs:ShortC l) (hl:l.length≤100) (la:Bool) {room:Int} {r:Bool} (h:Hid (quMay ⟨l,la⟩ room=r)) :
  Calls Try.prog 43 #[.agg #[v,.bool la],.int .i64 room] w fun e w' => e=.returned (.bool r)∧Below w.heap.size w w':=by
 rw [← h.out]
 by_cases h1:room < (l.length:Int)
 ·rw [qumay_long h1]
  exact qumay_1 hv la h1
 ·cases la with
  | false => exact qumay_3 hv hs hl h1
  | true =>
   by_cases h0:0 < l.length
   ·rw [qumay_la h0]
    exact qumay_2 hv h1 h0
   ·exact qumay_4 hv hs hl h1 (List.length_eq_zero_iff.1 (by omega))

theorem quempty_any {w:World} {v:Value} {l:List Chg} (hv:Chgs w v l) (la:Bool) {r:Bool} (h:Hid (quEmpty ⟨l,la⟩=r)) :
  Calls Try.prog 27 #[.agg #[v,.bool la]] w fun e w' => e=.returned (.bool r)∧Below w.heap.size w w':=by
 obtain⟨ao,cap,rfl,hmx⟩:=hv.open'
 have h:=h.out
 unfold quEmpty at h
 simp only at h
 have HB:=hZq (bl_newZ w (.cells #[.slice ao l.length cap,.bool la] 29))
 by_cases h0:l.length=0
 ·have t1:((l.length:Int) == 0)=true:=by rw [h0]; rfl
  rw [decide_eq_true h0,Bool.true_and] at h
  subst h
  clear h0 hv
  go_enter Try.func27,Try.ntmps27
  go_wp2_with fail
  go_ret
  exact⟨rfl,HB.out⟩
 ·have t1:((l.length:Int) == 0)=false:=by rw [beq_eq_false_iff_ne]; omega
  rw [decide_eq_false h0,Bool.false_and] at h
  subst h
  clear h0 hv
  go_enter Try.func27,Try.ntmps27
  go_wp2_with fail
  go_ret
  exact⟨rfl,HB.out⟩
end
section
open Go.RowKit

theorem chg_clone {w:World} {v:Value} {t:List Chg} (hv:RdS chgVals 6 Chg.zero w v t) (hl:t.length≤4294967) :
  Calls Try.prog 41 #[v] w fun e w' => ∃ u,e=.returned u∧OwnS chgVals 6 42 w' w.heap.size u t∧Below w.heap.size w w':=by
 have HV:=hZq hv
 obtain⟨a,cap,rfl,h1,h2,h3,h4⟩:=hv
 cases a with
 | none =>
  obtain rfl:cap=0:=h3 rfl
  obtain rfl:t=[]:=List.length_eq_zero_iff.1 (by omega)
  have heq:=fun w => eqlS_nil_nil chgOK w 0 0
  clear h4
  go_enter Try.func41,Try.ntmps41
  go_wp2_with fail
  go_ret
  exact⟨_,rfl,ownS_nil _ _,Below.refl _ _⟩
 | some x =>
  have HS:=hZq ((HV.out.later ((Below.refl _ _).alloc (Nat.le_refl _) (.cells #[] 42))).src chgOK)
  have heq:=fun w => eqlS_nil_some chgOK w x t.length cap
  clear h4 h3
  go_enter Try.func41,Try.ntmps41
  go_wp2_with (at_builtin; go_must (refine wpList_append_S chgOK rfl _ _ rfl w.heap.size _ [] rfl (by exact ownS_made w) (some x) t.length cap t rfl rfl (fun e => nomatch e) ?c1 (by simp only [List.length_nil]; omega) (by simp) ?_))
  case c1 => intro ad had; obtain rfl:=Option.some.inj had; exact HS.out
  intro v' w' ho' hb'
  have O:=hZq ho'
  have hbB:Hid (Below w.heap.size w w'):=((Below.refl w.heap.size w).alloc (Nat.le_refl _) _).trans hb'
  clear ho' hb'
  go_wp2_with fail
  go_ret
  exact⟨_,rfl,by have:=O.out; simpa using this,hbB.out⟩
end
section
open Go.RowKit

theorem twoQ {w:World} {b:Nat} {x0 x1:Value} {T:TypeId} (h:w.heap[b]?=some (.cells #[x0,x1] T (0,0))):(w.cell? ⟨b,0,none⟩=some x0∧w.cell? ⟨b,1,none⟩=some x1)∧w.frozen? ⟨b,0,none⟩=false∧w.frozen? ⟨b,1,none⟩=false :=
 ⟨⟨cell_of_row w b 0 _ _ (0,0) h,cell_of_row w b 1 _ _ (0,0) h⟩,frozen_of_row w b 0 _ _ h,frozen_of_row w b 1 _ _ h⟩

theorem sixQ {w:World} {b:Nat} {x0 x1 x2 x3 x4 x5:Value} {T:TypeId} (h:w.heap[b]?=some (.cells #[x0,x1,x2,x3,x4,x5] T (0,0))):(w.cell? ⟨b,0,none⟩=some x0∧w.cell? ⟨b,1,none⟩=some x1∧w.cell? ⟨b,2,none⟩=some x2∧w.cell? ⟨b,3,none⟩=some x3∧w.cell? ⟨b,4,none⟩=some x4∧w.cell? ⟨b,5,none⟩=some x5) ∧
  (w.frozen? ⟨b,0,none⟩=false∧w.frozen? ⟨b,1,none⟩=false∧w.frozen? ⟨b,2,none⟩=false∧w.frozen? ⟨b,3,none⟩=false∧w.frozen? ⟨b,4,none⟩=false∧w.frozen? ⟨b,5,none⟩=false) :=
 ⟨⟨cell_of_row w b 0 _ _ (0,0) h,cell_of_row w b 1 _ _ (0,0) h,cell_of_row w b 2 _ _ (0,0) h,cell_of_row w b 3 _ _ (0,0) h,cell_of_row w b 4 _ _ (0,0) h,cell_of_row w b 5 _ _ (0,0) h⟩,
  ⟨frozen_of_row w b 0 _ _ h,frozen_of_row w b 1 _ _ h,frozen_of_row w b 2 _ _ h,frozen_of_row w b 3 _ _ h,frozen_of_row w b 4 _ _ h,frozen_of_row w b 5 _ _ h⟩⟩
end
end Go.Proofs.Ytfocooajnignbaa
