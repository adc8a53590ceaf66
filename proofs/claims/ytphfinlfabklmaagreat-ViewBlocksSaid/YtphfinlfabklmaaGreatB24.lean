/-
 TEXTS OF THE PROOF, one behind the other: DigPure, ViewPure, SesOf, HeaLay, HeaSwap, HeaBest, HeaRise, HeaFind, HeaPut, HeaDrop, HeaAbs, HeaEq, HeaRef, BesRef, HeaRput.
-/
import Derived.Test.YtphfinlfabklmaaGreatB01
import Derived.Test.YtphfinlfabklmaaGreatB23
import Derived.Test.YtphfinlfabklmaaGreatB12
import Derived.Test.YtphfinlfabklmaaGreatB20
import Derived.Deep.AppendLies
import Derived.Laws.StructEq

set_option maxHeartbeats 12800000
set_option maxRecDepth 100000

section

namespace Go.Proofs.YtphfinlfabklmaaGreat

structure Row where
 c:List UInt8
 v:Val

def Row.zero:Row:=⟨[],Val.zero⟩

structure Chg where
 c:List UInt8
 on:Bool
 v:Val

def vSame (x y:Val):Bool:=(x.sh == y.sh && (x.pr == y.pr && (x.si == y.si && x.st == y.st)))

theorem vSame_iff {x y:Val}:vSame x y=true ↔ x=y:=by
 obtain⟨a,b,c,s⟩:=x
 obtain⟨a',b',c',s'⟩:=y
 simp [vSame]

theorem vSame_self (x:Val):vSame x x=true:=vSame_iff.2 rfl
def rSame (x y:Row):Bool:=(x.c == y.c) && vSame x.v y.v

theorem rSame_iff {x y:Row}:rSame x y=true ↔ x=y:=by
 obtain⟨a,b⟩:=x
 obtain⟨a',b'⟩:=y
 simp [rSame,vSame_iff]

theorem rSame_self (x:Row):rSame x x=true:=rSame_iff.2 rfl
def cSame (x y:Chg):Bool:=(x.c == y.c) && ((x.on == y.on) && vSame x.v y.v)

theorem cSame_iff {x y:Chg}:cSame x y=true ↔ x=y:=by
 obtain⟨a,o,b⟩:=x
 obtain⟨a',o',b'⟩:=y
 simp [cSame,vSame_iff]

theorem cSame_self (x:Chg):cSame x x=true:=cSame_iff.2 rfl

theorem row_at {t:List Row} {k:Nat} (h:k < t.length):t[k]?=some (t.getD k Row.zero):=by simp [List.getD,List.getElem?_eq_getElem h]
theorem row_get {t:List Row} {k:Nat} (h:k < t.length):t[k]=t.getD k Row.zero:=by simp [List.getD,List.getElem?_eq_getElem h]

def tSame (a b:List Row):Bool:=decide (a.length=b.length) && (List.range a.length).all fun i => rSame (a.getD i Row.zero) (b.getD i Row.zero)

theorem tSame_iff {a b:List Row}:tSame a b=true ↔ a=b:=by
 constructor
 ·intro h
  unfold tSame at h
  simp only [Bool.and_eq_true,decide_eq_true_eq] at h
  obtain⟨h1,h2⟩:=h
  refine List.ext_getElem h1 fun i p q => ?_
  have:=List.all_eq_true.1 h2 i (List.mem_range.2 p)
  rw [row_get p,row_get q]
  exact rSame_iff.1 this
 ·intro h
  subst h
  unfold tSame
  simp [rSame_self]

theorem tSame_len {a b:List Row} (h:¬ a.length=b.length):tSame a b=false:=by
 unfold tSame
 simp [h]

theorem tSame_off {a b:List Row} {k:Nat} (_hk:k < a.length) (h:rSame (a.getD k Row.zero) (b.getD k Row.zero)=false):tSame a b=false:=by
 rw [Bool.eq_false_iff]
 intro h'
 rw [tSame_iff] at h'
 subst h'
 rw [rSame_self] at h
 cases h

theorem tSame_on {a b:List Row} (hl:a.length=b.length) (h:(List.range a.length).all (fun i => rSame (a.getD i Row.zero) (b.getD i Row.zero))=true):tSame a b=true:=by
 unfold tSame
 rw [h]
 simp [hl]

theorem range_all_succ {k:Nat} {f:Nat→Bool} (h:(List.range k).all f=true) (hk:f k=true):(List.range (k+1)).all f=true:=by
 rw [List.range_succ,List.all_append,h]
 simp [hk]

/-! ### What may be -/

def rowOk (r:Row):Bool:=idIs r.c && vaMay r.v

def rowAt (t:List Row) (j:Nat):Bool:=rowOk (t.getD j Row.zero) && (decide (j=0) || idLess (t.getD (j - 1) Row.zero).c (t.getD j Row.zero).c)

def diMay (t:List Row):Bool:=decide (t.length≤32) && (List.range t.length).all (rowAt t)

def RRise (t:List Row):Prop:=t.Pairwise fun x y => idLess x.c y.c=true

theorem diMay_iff {t:List Row}:diMay t=true ↔ t.length≤32∧(∀ r ∈ t,rowOk r=true)∧RRise t:=by
 unfold diMay
 simp only [Bool.and_eq_true,decide_eq_true_eq,List.all_eq_true,List.mem_range]
 constructor
 ·rintro ⟨h1,h2⟩
  refine ⟨h1,?_,?_⟩
  ·intro r hr
   obtain⟨k,hk,rfl⟩:=List.getElem_of_mem hr
   have:=h2 k hk
   unfold rowAt at this
   rw [← row_get hk] at this
   simp only [Bool.and_eq_true] at this
   exact this.1
  ·have key:∀ d i,i+d+1 < t.length→idLess (t.getD i Row.zero).c (t.getD (i+d+1) Row.zero).c=true:=by
    intro d
    induction d with
    | zero =>
     intro i hi
     have:=h2 (i+1) (by omega)
     unfold rowAt at this
     simp only [Bool.and_eq_true] at this
     simpa using this.2
    | succ d ih =>
     intro i hi
     have a:=ih i (by omega)
     have:=h2 (i+d+1+1) (by omega)
     unfold rowAt at this
     simp only [Bool.and_eq_true] at this
     have b:idLess (t.getD (i+d+1) Row.zero).c (t.getD (i+d+1+1) Row.zero).c=true:=by simpa using this.2
     exact idLess_trans a b
   refine List.pairwise_iff_getElem.2 fun i j hi hj hij => ?_
   rw [row_get hi,row_get hj]
   have:=key (j - i - 1) i (by omega)
   rwa [show i+(j - i - 1)+1=j by omega] at this
 ·rintro ⟨h1,h2,h3⟩
  refine ⟨h1,fun k hk => ?_⟩
  unfold rowAt
  rw [← row_get hk,h2 _ (List.getElem_mem hk)]
  simp only [Bool.true_and,Bool.or_eq_true,decide_eq_true_eq]
  by_cases h0:k=0
  ·exact .inl h0
  ·right
   have:=List.pairwise_iff_getElem.1 h3 (k - 1) k (by omega) hk (by omega)
   rwa [row_get (show k - 1 < t.length by omega)] at this

/-! ### Bytes -/

def rowBytes (r:Row):List UInt8:=(vput r.c.length ++ r.c) ++ vaBytes r.v
def rowsBytes (t:List Row):List UInt8:=(t.map rowBytes).flatten
def diBytes (t:List Row):List UInt8:=vput t.length ++ rowsBytes t
def diPut (t:List Row):List UInt8 × Bool:=if diMay t=true then (diBytes t,true) else ([],false)

def diTakeRow (l:List UInt8) (p:Nat):Row × Nat × Nat :=
 if (idTake l p).2.2 ≠ 0 then (Row.zero,0,(idTake l p).2.2)
 else if (vaTake l (idTake l p).2.1).2.2 ≠ 0 then (Row.zero,0,(vaTake l (idTake l p).2.1).2.2)
 else (⟨(idTake l p).1,(vaTake l (idTake l p).2.1).1⟩,(vaTake l (idTake l p).2.1).2.1,0)

def diRows:Nat→List UInt8→Nat→List Row × Nat × Nat
 | 0,_,p => ([],p,0)
 | n+1,l,p =>
  if (diTakeRow l p).2.2 ≠ 0 then ([],0,(diTakeRow l p).2.2)
  else if (diRows n l (diTakeRow l p).2.1).2.2 ≠ 0 then ([],0,(diRows n l (diTakeRow l p).2.1).2.2)
  else ((diTakeRow l p).1 :: (diRows n l (diTakeRow l p).2.1).1,(diRows n l (diTakeRow l p).2.1).2.1,0)

def diTake (l:List UInt8) (p:Int):List Row × Nat × Nat :=
 if (vget l p).2.2 ≠ 0 then ([],0,(vget l p).2.2)
 else if 32 < (vget l p).1 then ([],0,3)
 else if (diRows (vget l p).1 l (vget l p).2.1).2.2 ≠ 0 then ([],0,(diRows (vget l p).1 l (vget l p).2.1).2.2)
 else if diMay (diRows (vget l p).1 l (vget l p).2.1).1=false then ([],0,3)
 else ((diRows (vget l p).1 l (vget l p).2.1).1,(diRows (vget l p).1 l (vget l p).2.1).2.1,0)

def diComb (acc:List Row) (r:List Row × Nat × Nat):List Row × Nat × Nat:=if r.2.2 ≠ 0 then ([],0,r.2.2) else (acc ++ r.1,r.2.1,0)

/-! ### The sum -/

def fnvM:Nat:=18446744073709551616
def fnvP:Nat:=1099511628211
def fnvB:Nat:=14695981039346656037
def fnv1 (h:Nat) (b:UInt8):Nat:=((h ^^^ b.toNat) * fnvP) % fnvM
def fnv (l:List UInt8):Nat:=l.foldl fnv1 fnvB
def diSum (t:List Row):Nat:=fnv (diPut t).1

/-! ### Get and Set -/

def diGet:List Row→List UInt8→Val × Bool
 | [],_ => (Val.zero,false)
 | r :: t,x => if r.c=x then (r.v,true) else diGet t x

def gSame (p q:Val × Bool):Bool:=vSame p.1 q.1 && (p.2 == q.2)

theorem gSame_iff {p q:Val × Bool}:gSame p q=true ↔ p=q:=by
 obtain⟨a,b⟩:=p
 obtain⟨a',b'⟩:=q
 simp [gSame,vSame_iff]

def diRest (t:List Row) (x:List UInt8):List Row:=t.filter fun r => !(r.c == x)

def plc (t:List Row) (x:List UInt8):Nat→Nat
 | 0 => 0
 | k+1 => if idLess (t.getD k Row.zero).c x=true then k+1 else plc t x k

def diPlace (t:List Row) (x:List UInt8):Nat:=plc t x t.length

def diIns (t:List Row) (r:Row):List Row:=t.take (diPlace t r.c) ++ ([r] ++ t.drop (diPlace t r.c))

def diSet (t:List Row) (c:Chg):List Row:=if c.on=true then diIns (diRest t c.c) ⟨c.c,c.v⟩ else diRest t c.c

def chGet (c:Chg):Val × Bool:=if c.on=true then (c.v,true) else (Val.zero,false)

theorem diGet_hit {r:Row} {x:List UInt8} (h:r.c=x) (t:List Row):diGet (r :: t) x=(r.v,true):=by unfold diGet; rw [if_pos h]
theorem diGet_miss {r : Row} {x : List UInt8} (h : ¬ r.c = x) (t : List Row) : diGet (r :: t) x = diGet t x := by conv => lhs; unfold diGet
                                                                                                                  rw [if_neg h]

theorem diGet_append:∀ (a b:List Row) (x:List UInt8),diGet (a ++ b) x=if (diGet a x).2=true then diGet a x else diGet b x
 | [],b,x => by simp [diGet]
 | r :: a,b,x => by
  rw [List.cons_append]
  by_cases h:r.c=x
  ·rw [diGet_hit h,diGet_hit h]; simp
  ·rw [diGet_miss h,diGet_miss h]
   exact diGet_append a b x

theorem diGet_some {t:List Row} {x:List UInt8}:∀ {v:Val},diGet t x=(v,true)→⟨x,v⟩ ∈ t:=by
 induction t with
 | nil => intro v h; simp [diGet] at h
 | cons r t ih =>
  intro v h
  unfold diGet at h
  by_cases hr:r.c=x
  ·rw [if_pos hr] at h
   simp only [Prod.mk.injEq,and_true] at h
   subst hr h
   simp
  ·rw [if_neg hr] at h
   exact List.mem_cons_of_mem _ (ih h)

theorem diGet_zero (t:List Row) (x:List UInt8):(diGet t x).2=true∨diGet t x=(Val.zero,false):=by
 induction t with
 | nil => exact .inr rfl
 | cons r t ih =>
  unfold diGet
  by_cases h:r.c=x
  ·rw [if_pos h]; exact .inl rfl
  ·rw [if_neg h]; exact ih

theorem diGet_has (t:List Row) (x:List UInt8):(diGet t x).2=true ↔ x ∈ t.map (·.c):=by
 induction t with
 | nil => simp [diGet]
 | cons r t ih =>
  unfold diGet
  by_cases h:r.c=x
  ·rw [if_pos h]; simp [h]
  ·rw [if_neg h,ih]
   simp only [List.map_cons,List.mem_cons]
   constructor
   ·exact .inr
   ·rintro (e | e)
    ·exact absurd e.symm h
    ·exact e

/-! ### Rising tables -/

/-! ### Changes -/

def cts (t:List Row):List (List UInt8):=t.map (·.c)

def chg (a b:List Row) (x:List UInt8):Option Chg:=if gSame (diGet a x) (diGet b x)=true then none else some ⟨x,(diGet b x).2,(diGet b x).1⟩

def diChanges (a b:List Row):List Chg:=(mrg (cts a ++ cts b)).filterMap (chg a b)

theorem chg_c {a b:List Row} {x:List UInt8} {c:Chg} (h:chg a b x=some c):c=⟨x,(diGet b x).2,(diGet b x).1⟩∧diGet a x ≠ diGet b x:=by
 unfold chg at h
 by_cases hg:gSame (diGet a x) (diGet b x)=true
 ·rw [if_pos hg] at h; cases h
 ·rw [if_neg hg] at h
  exact⟨(Option.some.inj h).symm,fun e => hg (gSame_iff.2 e)⟩

theorem changes_mem {a b:List Row} {c:Chg} (h:c ∈ diChanges a b):chg a b c.c=some c:=by
 obtain⟨x,_,hx⟩:=List.mem_filterMap.1 h
 obtain⟨e,_⟩:=chg_c hx
 rw [e] at hx ⊢
 exact hx

def setAll (t:List Row) (l:List Chg):List Row:=l.foldl diSet t

end Go.Proofs.YtphfinlfabklmaaGreat

end

section

namespace Go.Proofs.YtphfinlfabklmaaGreat

def vwVal (t:Sta) (w c:List UInt8):Val × Bool:=if roSees t.e w c=true∧seOf t.s c ≠ [] then (besV (seOf t.s c),true) else (Val.zero,false)
def vwValue (t:Sta) (w c:List UInt8):Val × Bool:=if stMay t=true then vwVal t w c else (Val.zero,false)

def vwRow (t:Sta) (w c:List UInt8):Option Row:=if (vwVal t w c).2=true then some ⟨c,(vwVal t w c).1⟩ else none
def vwOf (t:Sta) (w:List UInt8):List Row:=if stMay t=true then (roOf t.e w).filterMap (vwRow t w) else []
def vwWat (t:Sta) (c:List UInt8):List (List UInt8):=if stMay t=true∧seOf t.s c ≠ [] then roWat t.e c else []

theorem vwVal_is {t:Sta} {w c:List UInt8}:(vwVal t w c).2=true ↔ roSees t.e w c=true∧seOf t.s c ≠ []:=by
 unfold vwVal
 by_cases h:roSees t.e w c=true∧seOf t.s c ≠ []
 ·rw [if_pos h]
  exact⟨fun _ => h,fun _ => rfl⟩
 ·rw [if_neg h]
  exact⟨fun e => (by cases e),fun e => absurd e h⟩

theorem vwRow_eq {t:Sta} {w c:List UInt8} {r:Row}:vwRow t w c=some r ↔ r.c=c∧vwVal t w c=(r.v,true):=by
 unfold vwRow
 obtain⟨⟨v,b⟩,h⟩ : ∃ p,vwVal t w c=p:=⟨_,rfl⟩
 rw [h]
 obtain⟨rc,rv⟩:=r
 cases b with
 | false =>
  rw [if_neg (by simp)]
  constructor
  ·intro h; cases h
  ·rintro ⟨_,h⟩; cases h
 | true =>
  rw [if_pos rfl]
  constructor
  ·intro h
   injection h with h
   injection h with h1 h2
   exact⟨h1.symm,by have h2:v=rv:=h2; rw [h2]⟩
  ·rintro ⟨h1,h2⟩
   simp only at h1 h2
   injection h2 with h2 _
   rw [h1,h2]

theorem sees_of {l:List Ent} {w c:List UInt8} (h:roSees l w c=true):c ∈ roOf l w:=by
 rw [roOf_mem]
 refine Classical.byContradiction fun hn => ?_
 have:roIt l w c=It.zero:=roIt_none fun e he h' => hn ⟨e,he,h'⟩
 unfold roSees suSees at h
 rw [roGet_it,this] at h
 simp [It.zero] at h

theorem vwOf_mem {t:Sta} (hm:stMay t=true) {w:List UInt8} {r:Row}:r ∈ vwOf t w ↔ vwVal t w r.c=(r.v,true):=by
 unfold vwOf
 rw [if_pos hm,List.mem_filterMap]
 constructor
 ·rintro ⟨c,_,h⟩
  obtain⟨rfl,h⟩:=vwRow_eq.1 h
  exact h
 ·intro h
  refine ⟨r.c,?_,vwRow_eq.2 ⟨rfl,h⟩⟩
  exact sees_of (vwVal_is.1 (by rw [h])).1

theorem stMay_parts {t:Sta} (h:stMay t=true):RoM t.e∧seMay t.s=true:=by
 unfold stMay at h
 rw [Bool.and_eq_true] at h
 exact⟨roMay_iff.1 h.1,h.2⟩

theorem vwOf_rise {t:Sta} (hm:stMay t=true) (w:List UInt8):RRise (vwOf t w):=by
 unfold vwOf RRise
 rw [if_pos hm,List.pairwise_filterMap]
 refine (roOf_rise (stMay_parts hm).1.1 w).imp ?_
 intro a b hab x hx y hy
 rw [(vwRow_eq.1 hx).1,(vwRow_eq.1 hy).1]
 exact hab

theorem vwOf_len {t:Sta} (hm:stMay t=true) (w:List UInt8):(vwOf t w).length≤16:=by
 unfold vwOf
 rw [if_pos hm]
 refine Nat.le_trans (List.length_filterMap_le _ _) ?_
 by_cases h:∃ e ∈ t.e,e.o=w
 ·obtain⟨e,he,rfl⟩:=h
  exact ((stMay_parts hm).1.2 e he).2.2.2.1
 ·have:roOf t.e w=[]:=List.eq_nil_iff_forall_not_mem.2 fun c hc => by
   obtain⟨e,he,ho,_⟩:=roOf_mem.1 hc
   exact h ⟨e,he,ho⟩
  rw [this]
  exact Nat.zero_le _

theorem vwWat_mem {t:Sta} (hm:stMay t=true) {w c:List UInt8}:w ∈ vwWat t c ↔ (vwVal t w c).2=true:=by
 rw [vwVal_is]
 unfold vwWat
 by_cases h:seOf t.s c=[]
 ·rw [if_neg (fun e => e.2 h)]
  exact⟨fun e => (by cases e),fun e => absurd h e.2⟩
 ·rw [if_pos ⟨hm,h⟩,roWat_mem (stMay_parts hm).1.1]
  exact⟨fun e => ⟨e,h⟩,fun e => e.1⟩

theorem vwVal_same {t u:Sta} {w c:List UInt8} (h1:roSees u.e w c=roSees t.e w c) (h2:seOf u.s c=seOf t.s c):vwVal u w c=vwVal t w c:=by
 unfold vwVal
 rw [h1,h2]

theorem vwVal_leaves {t u:Sta} {e:Ev} (h:stApply t e=(u,0)) {w c:List UInt8} (hc:c ∉ stTouch e):vwVal u w c=vwVal t w c:=by
 obtain⟨h1,h2⟩:=st_leaves h hc
 refine vwVal_same ?_ h1
 unfold roSees
 rw [h2 w]
 obtain⟨_,⟨k1,k6,hd,_⟩ | ⟨_,_,he⟩ | ⟨_,_,he⟩⟩:=stApply_ok h
 ·rw [stTouch_two k1 k6,mrg_mem] at hc
  simp only [List.mem_cons,List.not_mem_nil,or_false,not_or] at hc
  rw [(roDo_get hd (p:=w) (q:=c) (fun h => hc.1 h.2) (fun h => hc.2 h.2)).1]
 ·rw [he]
 ·rw [he]

theorem vwVal_turn {t u:Sta} {e:Ev} (h:stApply t e=(u,0)) {w c:List UInt8} (hne:vwVal u w c ≠ vwVal t w c):(e.k≤6→(w=e.u∧c=e.o)∨(w=e.o∧c=e.u))∧(6 < e.k→c=e.u):=by
 obtain⟨_,⟨k1,k6,hd,hs⟩ | ⟨k7,_,_⟩ | ⟨k8,_,_⟩⟩:=stApply_ok h
 ·refine ⟨fun _ => Classical.byContradiction fun hn => ?_,fun h => by omega⟩
  refine hne (vwVal_same ?_ (by rw [hs]))
  have a1:¬ (w=e.u∧c=e.o):=fun h => hn (.inl h)
  have a2:¬ (w=e.o∧c=e.u):=fun h => hn (.inr h)
  exact (roDo_get hd a1 a2).2
 ·refine ⟨fun h => by omega,fun _ => Classical.byContradiction fun hn => hne (vwVal_leaves h ?_)⟩
  rw [stTouch_one (.inl k7)]
  simpa using hn
 ·refine ⟨fun h => by omega,fun _ => Classical.byContradiction fun hn => hne (vwVal_leaves h ?_)⟩
  rw [stTouch_one (.inr k8)]
  simpa using hn

theorem sat_memV {l:List Ses} {j:Nat} (h:j < l.length):sat l j ∈ l:=by
 unfold sat
 rw [List.getD_eq_getElem?_getD,List.getElem?_eq_getElem h]
 exact List.getElem_mem h

theorem besV_may {l:List Ses} (h0:0 < l.length) (h:∀ s ∈ l,vaMay s.v=true):vaMay (besV l)=true:=by
 obtain⟨j,hj,e,-⟩:=besOf_spec h0
 have hv:=h _ (sat_memV hj)
 rw [← e] at hv
 unfold vaMay numsOk at hv ⊢
 rw [Bool.and_eq_true,decide_eq_true_eq] at hv ⊢
 obtain⟨⟨a1,a2,a3⟩,a4⟩:=hv
 refine ⟨⟨?_,?_,a3⟩,a4⟩
 ·exact Int.le_trans a1 (shTo_spec l (besOf l).v.sh l.length).1
 ·show shTo l (besOf l).v.sh l.length≤4
  rcases (shTo_spec l (besOf l).v.sh l.length).2.2 with e | ⟨i,hi,e⟩
  ·rw [e]; exact a2
  ·rw [e]
   have hv:=h _ (sat_memV hi)
   unfold vaMay numsOk at hv
   rw [Bool.and_eq_true,decide_eq_true_eq] at hv
   exact hv.1.2.1

theorem roOf_id {t:Sta} (hm:stMay t=true) {w c:List UInt8} (h:c ∈ roOf t.e w):idIs c=true:=by
 obtain⟨e,he,_,rfl⟩:=roOf_mem.1 h
 exact ((stMay_parts hm).1.2 e he).2.1

theorem vwOf_may {t:Sta} (hm:stMay t=true) (w:List UInt8):diMay (vwOf t w)=true:=by
 rw [diMay_iff]
 refine ⟨Nat.le_trans (vwOf_len hm w) (by decide),fun r hr => ?_,vwOf_rise hm w⟩
 have hv:=(vwOf_mem hm).1 hr
 have his:=vwVal_is.1 (by rw [hv]:(vwVal t w r.c).2=true)
 have e:besV (seOf t.s r.c)=r.v:=by
  unfold vwVal at hv
  rw [if_pos his] at hv
  exact (Prod.mk.inj hv).1
 unfold rowOk
 rw [Bool.and_eq_true]
 refine ⟨roOf_id hm (sees_of his.1),?_⟩
 rw [← e]
 refine besV_may (List.length_pos_iff.2 his.2) fun s hs => ?_
 have hs':s ∈ t.s:=(List.mem_filter.1 hs).1
 have h1:=(seMay_rise (stMay_parts hm).2).2.2 s hs'
 unfold seOne at h1
 simp only [Bool.and_eq_true] at h1
 exact h1.2.2.2

theorem diGet_none':∀ {t:List Row} {x:List UInt8} {v:Val},(diGet t x).2=false→⟨x,v⟩ ∈ t→False:=by
 intro t x v h hm
 have:=(diGet_has t x).2 (List.mem_map.2 ⟨_,hm,rfl⟩)
 rw [h] at this
 cases this

theorem vwOf_get {t:Sta} (hm:stMay t=true) (w c:List UInt8):diGet (vwOf t w) c=vwVal t w c:=by
 obtain⟨⟨v,b⟩,h⟩ : ∃ p,diGet (vwOf t w) c=p:=⟨_,rfl⟩
 cases b with
 | true => rw [h]; exact ((vwOf_mem hm).1 (diGet_some h)).symm
 | false =>
  have h0:diGet (vwOf t w) c=(Val.zero,false):=(diGet_zero _ _).resolve_left (by rw [h]; simp)
  rw [h0]
  obtain⟨⟨v',b'⟩,h'⟩ : ∃ p,vwVal t w c=p:=⟨_,rfl⟩
  cases b' with
  | true =>
   have:=diGet_none' (t:=vwOf t w) (x:=c) (v:=v') (by rw [h]) ((vwOf_mem hm (r:=⟨c,v'⟩)).2 h')
   exact this.elim
  | false =>
   rw [h']
   have:¬ (roSees t.e w c=true∧seOf t.s c ≠ []):=fun e => by have:=vwVal_is.2 e; rw [h'] at this; cases this
   unfold vwVal at h'
   rw [if_neg this] at h'
   exact h'

def vwBetween (a b:Sta) (w:List UInt8):List Chg:=diChanges (vwOf a w) (vwOf b w)

theorem between_mem {a b:Sta} (ha:stMay a=true) (hb:stMay b=true) {w:List UInt8} {c:Chg} (h:c ∈ vwBetween a b w):vwVal a w c.c ≠ vwVal b w c.c∧c.on=(vwVal b w c.c).2:=by
 have h1:=changes_mem h
 obtain⟨e,hne⟩:=chg_c h1
 rw [vwOf_get ha,vwOf_get hb] at hne
 refine ⟨hne,?_⟩
 rw [e]
 simp only
 rw [vwOf_get hb]

theorem between_none {a:Sta} {w:List UInt8}:vwBetween a a w=[]:=by
 refine List.eq_nil_iff_forall_not_mem.2 fun c hc => ?_
 obtain⟨_,hne⟩:=chg_c (changes_mem hc)
 exact hne rfl

theorem between_one {t u:Sta} {e:Ev} (h:stApply t e=(u,0)) {w:List UInt8}:(∀ c ∈ vwBetween t u w,c.c ∈ stTouch e)∧(vwBetween t u w).length≤1:=by
 have hm:=(stApply_ok h).1
 have hu:=stApply_may h
 have hkk:(1≤e.k∧e.k≤6)∨e.k=7∨e.k=8:=by
  obtain⟨_,⟨k1,k6,_,_⟩ | ⟨k7,_,_⟩ | ⟨k8,_,_⟩⟩:=stApply_ok h
  ·exact .inl ⟨k1,k6⟩
  ·exact .inr (.inl k7)
  ·exact .inr (.inr k8)
 have hturn:∀ c ∈ vwBetween t u w,(e.k≤6→(w=e.u∧c.c=e.o)∨(w=e.o∧c.c=e.u))∧(6 < e.k→c.c=e.u):=fun c hc => vwVal_turn h (fun e' => (between_mem hm hu hc).1 e'.symm)
 constructor
 ·intro c hc
  obtain⟨a1,a2⟩:=hturn c hc
  rcases hkk with ⟨k1,k6⟩ | k78
  ·rw [stTouch_two k1 k6,mrg_mem]
   rcases a1 k6 with ⟨_,h2⟩ | ⟨_,h2⟩ <;> rw [h2] <;> simp
  ·rw [stTouch_one k78,a2 (by omega)]
   simp
 ·have hall:∃ x,∀ c ∈ vwBetween t u w,c.c=x:=by
   by_cases k6:e.k≤6
   ·by_cases hw:w=e.u
    ·refine ⟨e.o,fun c hc => ?_⟩
     rcases (hturn c hc).1 k6 with ⟨_,h2⟩ | ⟨h1,h2⟩
     ·exact h2
     ·rw [h2,← hw,h1]
    ·refine ⟨e.u,fun c hc => ?_⟩
     rcases (hturn c hc).1 k6 with ⟨h1,_⟩ | ⟨_,h2⟩
     ·exact absurd h1 hw
     ·exact h2
   ·exact⟨e.u,fun c hc => (hturn c hc).2 (by omega)⟩
  obtain⟨x,hx⟩:=hall
  have hr:((vwBetween t u w).map (·.c)).Pairwise fun a b => idLess a b=true:=by
   unfold vwBetween diChanges
   rw [List.map_filterMap,List.pairwise_filterMap]
   refine (mrg_rising _).imp ?_
   intro a b hab p hp q hq
   rw [Option.map_eq_some_iff] at hp hq
   obtain⟨c1,h1,rfl⟩:=hp
   obtain⟨c2,h2,rfl⟩:=hq
   rw [(chg_c h1).1,(chg_c h2).1]
   exact hab
  match hv:vwBetween t u w,hr,hx with
  | [],_,_ => simp
  | [_],_,_ => simp
  | a :: b :: l,hr,hx =>
   exfalso
   have h1:=hx a (by simp)
   have h2:=hx b (by simp)
   simp only [List.map_cons,List.pairwise_cons] at hr
   have:=hr.1 b.c (by simp)
   rw [h1,h2,idLess_irrefl] at this
   cases this

theorem vwVal_hides {t u:Sta} {e:Ev} (h:stApply t e=(u,0)) {w:List UInt8} (hh:∀ p ∈ stTouch e,p ≠ w∧roSees t.e w p=false∧roSees u.e w p=false) (c:List UInt8):vwVal u w c=vwVal t w c:=by
 refine Classical.byContradiction fun hne => ?_
 obtain⟨a1,a2⟩:=vwVal_turn h hne
 obtain⟨_,⟨k1,k6,_,_⟩ | ⟨k7,_,_⟩ | ⟨k8,_,_⟩⟩:=stApply_ok h
 ·rw [stTouch_two k1 k6] at hh
  rcases a1 k6 with ⟨h1,_⟩ | ⟨h1,_⟩
  ·exact (hh e.u (by rw [mrg_mem]; simp)).1 h1.symm
  ·exact (hh e.o (by rw [mrg_mem]; simp)).1 h1.symm
 ·obtain⟨_,b1,b2⟩:=hh c (by rw [stTouch_one (.inl k7),a2 (by omega)]; simp)
  refine hne ?_
  unfold vwVal
  rw [if_neg (by rw [b2]; simp),if_neg (by rw [b1]; simp)]
 ·obtain⟨_,b1,b2⟩:=hh c (by rw [stTouch_one (.inr k8),a2 (by omega)]; simp)
  refine hne ?_
  unfold vwVal
  rw [if_neg (by rw [b2]; simp),if_neg (by rw [b1]; simp)]

theorem rise_rows:∀ {a b:List Row},RRise a→RRise b→(∀ r,r ∈ a ↔ r ∈ b)→a=b
 | [],[],_,_,_ => rfl
 | [],r :: b,_,_,h => by have:=(h r).2 (by simp); simp at this
 | r :: a,[],_,_,h => by have:=(h r).1 (by simp); simp at this
 | r :: a,q :: b,ha,hb,h => by
  have ha':=List.pairwise_cons.1 ha
  have hb':=List.pairwise_cons.1 hb
  have e:r=q:=by
   rcases List.mem_cons.1 ((h r).1 (by simp)) with e | h1
   ·exact e
   ·rcases List.mem_cons.1 ((h q).2 (by simp)) with e | h2
    ·exact e.symm
    ·have k1:=hb'.1 r h1
     have k2:=ha'.1 q h2
     have:=idLess_trans k1 k2
     rw [idLess_irrefl] at this
     cases this
  subst e
  have hn:∀ (l:List Row),(∀ x ∈ l,idLess r.c x.c=true)→r ∉ l:=fun l hl hm => by
   have:=hl r hm
   rw [idLess_irrefl] at this
   cases this
  rw [rise_rows ha'.2 hb'.2 fun x => ?_]
  constructor
  ·intro hx
   rcases List.mem_cons.1 ((h x).1 (List.mem_cons_of_mem _ hx)) with e | h1
   ·exact absurd (e ▸ hx) (hn a ha'.1)
   ·exact h1
  ·intro hx
   rcases List.mem_cons.1 ((h x).2 (List.mem_cons_of_mem _ hx)) with e | h1
   ·exact absurd (e ▸ hx) (hn b hb'.1)
   ·exact h1

theorem vwOf_same {t u:Sta} (hm:stMay t=true) (hu:stMay u=true) {w:List UInt8} (h:∀ c,vwVal u w c=vwVal t w c):vwOf u w=vwOf t w :=
 rise_rows (vwOf_rise hu w) (vwOf_rise hm w) fun r => by rw [vwOf_mem hu,vwOf_mem hm,h]

theorem suDo_sees (k:Int) (a b:It):(k=3→suSees (suDo a b k).1 (suDo a b k).2.1=false∨(suDo a b k).2.2 ≠ 0)∧(k=4→suSees (suDo a b k).2.1 (suDo a b k).1=false∨(suDo a b k).2.2 ≠ 0)∧(k=5→(suSees (suDo a b k).1 (suDo a b k).2.1=false∧suSees (suDo a b k).2.1 (suDo a b k).1=false)∨(suDo a b k).2.2 ≠ 0):=by
 obtain⟨a1,a2,a3,a4,a5⟩:=a
 obtain⟨b1,b2,b3,b4,b5⟩:=b
 refine ⟨?_,?_,?_⟩ <;> (rintro rfl; revert a1 a2 a3 a4 a5 b1 b2 b3 b4 b5; decide +kernel)

theorem st_unsees {t u:Sta} {e:Ev} (h:stApply t e=(u,0)):(e.k=3∨e.k=5→roSees u.e e.u e.o=false)∧(e.k=4∨e.k=5→roSees u.e e.o e.u=false):=by
 obtain⟨_,⟨k1,k6,hd,_⟩ | ⟨k7,_,_⟩ | ⟨k8,_,_⟩⟩:=stApply_ok h
 ·obtain⟨a,b,hx,h1,h2⟩:=roDo_at hd
  obtain⟨_,_,_,hx⟩:=suAct_ok hx
  obtain⟨s3,s4,s5⟩:=suDo_sees e.k (roIt t.e e.u e.o) (roIt t.e e.o e.u)
  rw [hx] at s3 s4 s5
  simp only at s3 s4 s5
  unfold roSees
  rw [roGet_it,roGet_it,h1,h2]
  refine ⟨?_,?_⟩
  ·rintro (k | k)
   ·exact (s3 k).resolve_right (by simp)
   ·exact ((s5 k).resolve_right (by simp)).1
  ·rintro (k | k)
   ·exact (s4 k).resolve_right (by simp)
   ·exact ((s5 k).resolve_right (by simp)).2
 ·exact⟨fun h => by omega,fun h => by omega⟩
 ·exact⟨fun h => by omega,fun h => by omega⟩

end Go.Proofs.YtphfinlfabklmaaGreat

end

section

namespace Go.Proofs.YtphfinlfabklmaaGreat
open Go.RowKit

theorem seOf_succ {l:List Ses} {k:Nat} (hk:k < l.length) (u:List UInt8):seOf (l.take (k+1)) u=if (l.getD k Ses.zero).u=u then seOf (l.take k) u ++ [l.getD k Ses.zero] else seOf (l.take k) u:=by
 unfold seOf
 rw [List.take_succ_eq_append_getElem hk,sgetD hk,List.filter_append]
 by_cases h:l[k].u=u
 ·rw [if_pos h,List.filter_cons,if_pos (by simp [h])]
  rfl
 ·rw [if_neg h,List.filter_cons,if_neg (by simp [h])]
  simp

theorem seOf_le (l:List Ses) (u:List UInt8):(seOf l u).length≤l.length:=List.length_filter_le _ _

theorem sof_any {w:World} {v:Value} {l:List Ses} (hv:Sess w v l) (hl:l.length≤1000) (u:List UInt8) :
  Calls Tryz.prog 117 #[v,.string ⟨u.toArray⟩] w fun e w' => ∃ x,e=.returned x∧OwnSes w' w.heap.size x (seOf l u)∧Below w.heap.size w w':=by
 have HV:=hD hv
 obtain⟨a,cap,rfl,_⟩:=hv.open'
 clear hv
 go_enter Tryz.func117,Tryz.ntmps117
 go_wp2_with fail
 go_loopw [5,10] (fun s i wr => ∃ k:Nat,k≤l.length∧i=.int .i64 k∧Hid (OwnSes wr w.heap.size s (seOf (l.take k) u))∧Hid (Below w.heap.size w wr)) (fun _ i _ => l.length - (intOf i).toNat)
 case atStart => exact⟨0,by omega,rfl,ownS_nil _ _,Below.refl _ _⟩
 case round =>
  obtain⟨k,hk,rfl,HO,HN⟩:=hrel
  by_cases hlt:k < l.length
  ·obtain⟨b,off,rfl,hc⟩:=HV.out.row HN.out k hlt
   have hX:=seOf_succ hlt u
   obtain⟨⟨eu,ei,⟨ea,eb,ec,es⟩⟩,hr⟩ : ∃ r,l.getD k Ses.zero=r:=⟨_,rfl⟩
   rw [hr] at hc hX
   try simp only at hX
   obtain⟨h0,h1,h2,h3,h4,h5⟩:=cells6 hc
   try simp only at h0 h1 h2 h3 h4 h5
   have O1:=hD (HO.out.alloc (.cells #[.string ⟨eu.toArray⟩,.int .i64 ei,.int .i64 ea,.int .i64 eb,.int .i64 ec,.string ⟨es.toArray⟩] 122))
   have N1:=hD (bl_allocZ HN.out (.cells #[.string ⟨eu.toArray⟩,.int .i64 ei,.int .i64 ea,.int .i64 eb,.int .i64 ec,.string ⟨es.toArray⟩] 122))
   clear hr hc
   by_cases ho:eu=u
   ·rw [if_pos ho] at hX
    have HX:=hD hX
    subst ho
    have O2:=hD (O1.out.alloc (.cells #[.string ⟨eu.toArray⟩,.int .i64 ei,.int .i64 ea,.int .i64 eb,.int .i64 ec,.string ⟨es.toArray⟩] 122))
    have N2:=hD (bl_allocZ N1.out (.cells #[.string ⟨eu.toArray⟩,.int .i64 ei,.int .i64 ea,.int .i64 eb,.int .i64 ec,.string ⟨es.toArray⟩] 122))
    have hz3:=N2.out.size
    have hcl:(seOf (l.take k) eu).length≤1000:=by have:=seOf_le (l.take k) eu; rw [List.length_take] at this; omega
    have C4:=hD (srcS_new (vals:=sesVals) (w:=wr.alloc (.cells #[.string ⟨eu.toArray⟩,.int .i64 ei,.int .i64 ea,.int .i64 eb,.int .i64 ec,.string ⟨es.toArray⟩] 122)) (r:=⟨eu,ei,⟨ea,eb,ec,es⟩⟩) (cs:=#[.string ⟨eu.toArray⟩,.int .i64 ei,.int .i64 ea,.int .i64 eb,.int .i64 ec,.string ⟨es.toArray⟩]) (e:=122) rfl (B:=wr.heap.size+1) (by simp))
    clear hX HO O1 N1
    go_wp2_with (at_builtin; refine wpList_append_S sesOK rfl _ _ rfl w.heap.size _ (seOf (l.take k) eu) rfl O2.out (some ⟨wr.heap.size+1,0,none⟩) 1 1 [⟨eu,ei,⟨ea,eb,ec,es⟩⟩] rfl rfl (fun e => by cases e) C4.out (by simp only [List.length_cons,List.length_nil]; omega) hz3 ?_)
    intro v' w' hown' hb'
    rw [← HX.out] at hown'
    have O3:=hD hown'
    have N3:=hD (N2.out.trans hb')
    clear hown' hb' O2 C4 h0 h1 h2 h3 h4 h5
    go_wp2_with fail
    go_roundw
    case rel => exact⟨k+1,by omega,by go_num,O3,N3⟩
    case measure => simp [intOf]; omega
   ·rw [if_neg ho] at hX
    have o3:=O1.out
    rw [← hX] at o3
    have O3:=hD o3
    clear o3
    have t1:(eu == u)=false:=by rw [beq_eq_false_iff_ne]; exact ho
    clear hX HO ho
    go_wp2_with fail
    go_roundw
    case rel => exact⟨k+1,by omega,by go_num,O3,N1⟩
    case measure => simp [intOf]; omega
  ·obtain rfl:k=l.length:=by omega
   have ht:=HO.out
   rw [List.take_length] at ht
   have HT:=hD ht
   clear ht
   go_wp2_with fail
   go_ret
   exact⟨_,rfl,HT.out,HN.out⟩

end Go.Proofs.YtphfinlfabklmaaGreat

end

section

namespace Go.Proofs.YtphfinlfabklmaaGreat
open Go.RowKit

end Go.Proofs.YtphfinlfabklmaaGreat

end

section

namespace Go.Proofs.YtphfinlfabklmaaGreat
open Go.RowKit

def Fits (l:List Sl):Prop:=∀ s ∈ l,(Lit.int .i64 s.id).wf=true

theorem Fits.at0 {l:List Sl} (h:Fits l) {i:Nat} (hi:i < l.length):(Lit.int .i64 (at0 l i).id).wf=true:=by
 rw [at0_get hi]; exact h _ (List.getElem_mem hi)

structure Turn (w w':World) (base B:Nat) (v:Value) (M:Nat):Prop where
 beside:Beside w w' (Foot B M v)
 size:w.heap.size≤w'.heap.size
 below:Below base w w'

theorem Turn.trans {a b c:World} {base B:Nat} {v:Value} {M:Nat} (h:Turn a b base B v M) (k:Turn b c base B v M):Turn a c base B v M :=
 ⟨h.beside.trans h.size k.beside,Nat.le_trans h.size k.size,h.below.trans k.below⟩

end Go.Proofs.YtphfinlfabklmaaGreat

end

section

namespace Go.Proofs.YtphfinlfabklmaaGreat
open Go.RowKit

def BestTo (l:List Sl) (a c b:Nat):Prop :=
 b < l.length∧(b=a∨(0 < b∧par b=a∧slBet (at0 l b) (at0 l a)=true))∧∀ x,0 < x→x < c→x < l.length→par x=a→slBet (at0 l x) (at0 l b)=false

def BestOf (l:List Sl) (a b:Nat):Prop:=b < l.length∧(b=a∨(0 < b∧par b=a∧slBet (at0 l b) (at0 l a)=true))∧∀ x,0 < x→x < l.length→par x=a→slBet (at0 l x) (at0 l b)=false

end Go.Proofs.YtphfinlfabklmaaGreat

end

section

namespace Go.Proofs.YtphfinlfabklmaaGreat
open Go.RowKit

end Go.Proofs.YtphfinlfabklmaaGreat

end

section

namespace Go.Proofs.YtphfinlfabklmaaGreat
open Go.RowKit

def findV (l:List Sl) (id:Int):Value:=.tuple #[.int .i64 ((spot l id).getD 0:Nat),.bool (spot l id).isSome]

def topV (l:List Sl):Value:=.tuple #[.agg #[.int .i64 (at0 l 0).id,.int .i64 (at0 l 0).r0,.int .i64 (at0 l 0).r1,.int .i64 (at0 l 0).r2],.bool (decide (0 < l.length))]

/-! ### of a nil heap -/

end Go.Proofs.YtphfinlfabklmaaGreat

end

section

namespace Go.Proofs.YtphfinlfabklmaaGreat
open Go.RowKit

def slPut (l:List Sl) (s:Sl):List Sl :=
 match spot l s.id with
 | some p => l.set p s
 | none => l ++ [s]

structure TurnV (w w':World) (base B:Nat) (v:Value) (M:Nat) (v':Value):Prop where
 turn:Turn w w' base B v M
 new:∀ g n c,v'=.slice (some ⟨g,0,none⟩) n c→(∃ n c,v=.slice (some ⟨g,0,none⟩) n c)∨w.heap.size≤g

theorem TurnV.trans {a b c:World} {base B:Nat} {v v' v'':Value} {M:Nat} (h:TurnV a b base B v M v') (k:TurnV b c base B v' M v''):TurnV a c base B v M v'':=by
 refine ⟨⟨fun x hx hn => ?_,Nat.le_trans h.turn.size k.turn.size,h.turn.below.trans k.turn.below⟩,fun g n c hv => ?_⟩
 ·refine (k.turn.beside x (Nat.lt_of_lt_of_le hx h.turn.size) ?_).trans (h.turn.beside x hx hn)
  rintro (e | e | ⟨n,c,e⟩)
  ·exact hn (.inl e)
  ·exact hn (.inr (.inl e))
  ·rcases h.new x n c e with ⟨n',c',e'⟩ | hge
   ·exact hn (.inr (.inr ⟨n',c',e'⟩))
   ·omega
 ·rcases k.new g n c hv with ⟨n',c',e'⟩ | hge
  ·exact h.new g n' c' e'
  ·exact .inr (Nat.le_trans h.turn.size hge)

def OutG {α:Type} (vals:α→List Value) (sz:Nat) (T:TypeId) (w w':World) (base:Nat) (v:Value) (t:List α) (m:α) (v':Value):Prop :=
 ∃ g cap,v'=.slice (some ⟨g,0,none⟩) (t.length+1) cap∧OwnS vals sz T w' base v' (t ++ [m])∧w.grownBy w' v.ownBlock∧(v.ownBlock=some g∨g=w.heap.size)∧g < w'.heap.size

end Go.Proofs.YtphfinlfabklmaaGreat

end

section

namespace Go.Proofs.YtphfinlfabklmaaGreat
open Go.RowKit Go.ChangeMaps Go.MapKept

def slCut (l:List Sl) (p:Nat):List Sl:=(l.take (l.length - 1)).set p (at0 l (l.length - 1))

end Go.Proofs.YtphfinlfabklmaaGreat

end

section

namespace Go.Proofs.YtphfinlfabklmaaGreat
open Go.RowKit

def slDel (L:List Sl) (id:Int):List Sl:=L.filter fun s => decide (s.id ≠ id)

def IsTop (L:List Sl) (s:Sl):Prop:=s ∈ L∧∀ x ∈ L,slBet x s=false

theorem TurnV.far {w w':World} {base B:Nat} {v:Value} {M:Nat} {v':Value} (ht:TurnV w w' base B v M v') {X:Nat} (hX:X < w.heap.size) (hf:¬ Foot B M v X):¬ Foot B M v' X∧w'.heap[X]?=w.heap[X]?:=by
 refine ⟨?_,ht.turn.beside X hX hf⟩
 rintro (e | e | ⟨n,c,e⟩)
 ·exact hf (.inl e)
 ·exact hf (.inr (.inl e))
 ·rcases ht.new X n c e with h | h
  ·exact hf (.inr (.inr h))
  ·omega

end Go.Proofs.YtphfinlfabklmaaGreat

end

section

namespace Go.Proofs.YtphfinlfabklmaaGreat
open Go.RowKit

def rkSame (a b c a' b' c':Int):Bool:=decide (a=a') && (decide (b=b') && decide (c=c'))

def slSame (a b:Sl):Bool:=decide (a.id=b.id) && rkSame a.r0 a.r1 a.r2 b.r0 b.r1 b.r2

end Go.Proofs.YtphfinlfabklmaaGreat

end

section

namespace Go.Proofs.YtphfinlfabklmaaGreat
open Go.RowKit

def placeI (L:List Sl) (id:Int):Int:=match spot L id with | some p => (p:Int) | none => -1

end Go.Proofs.YtphfinlfabklmaaGreat

end

section

namespace Go.Proofs.YtphfinlfabklmaaGreat
open Go.RowKit

theorem best_no {w:World} {v:Value} (hv:Sess w v []) :
  Calls Tryz.prog 185 #[v] w fun e w' => e=.returned (.tuple #[.agg #[.string ⟨#[]⟩,.int .i64 0,.int .i64 0,.int .i64 0,.int .i64 0,.string ⟨#[]⟩],.bool false])∧Below w.heap.size w w':=by
 obtain⟨ao,cap,rfl,hm⟩:=hv.open'
 clear hv hm
 simp only [List.length_nil]
 go_enter Tryz.func185,Tryz.ntmps185
 go_wp2_with fail
 refine bodyPost_ret (v:=.tuple #[.agg #[.string ⟨#[]⟩,.int .i64 0,.int .i64 0,.int .i64 0,.int .i64 0,.string ⟨#[]⟩],.bool false]) (by simp [results,Tryz.results185,go_sem]) rfl ⟨rfl,?_⟩
 repeat (first | exact Below.refl _ _ | refine Below.setCell ?_ (by first | (simp; done) | (simp; omega)) _ | refine Below.alloc ?_ (by first | (simp; done) | (simp; omega)) _)

end Go.Proofs.YtphfinlfabklmaaGreat

end

section

namespace Go.Proofs.YtphfinlfabklmaaGreat
open Go.RowKit

theorem setCell_id {w:World} {b i:Nat} {v:Value} (h:w.cell? ⟨b,i,none⟩=some v):w.setCell ⟨b,i,none⟩ v=w:=by
 obtain⟨H,tp,dr,os,out⟩:=w
 unfold World.setCell
 congr 1
 refine Array.ext_getElem? fun k => ?_
 rw [Array.getElem?_modify]
 split
 ·rename_i e
  have e':b=k:=e
  subst e'
  cases hb:H[b]? with
  | none => rfl
  | some o =>
   simp only [World.cell?,hb] at h
   cases o with
   | cells cs T fr =>
    simp at h
    simp [Option.map]
    rw [Array.setIfInBounds_def]
    split
    ·rename_i hi
     rw [Array.getElem?_eq_getElem hi] at h
     refine Array.ext_getElem? fun j => ?_
     rw [Array.getElem?_set]
     split
     ·rename_i ej
      subst ej
      rw [Array.getElem?_eq_getElem hi,h]
     ·rfl
    ·rfl
   | _ => rfl
 ·rfl

def FootK (K:Nat) (v:Value) (b:Nat):Prop:=b=K∨∃ n c,v=.slice (some ⟨b,0,none⟩) n c

structure TurnK (w w':World) (base K:Nat) (v v':Value):Prop where
 beside:Beside w w' (FootK K v)
 size:w.heap.size≤w'.heap.size
 below:Below base w w'
 new:∀ g n c,v'=.slice (some ⟨g,0,none⟩) n c→(∃ n c,v=.slice (some ⟨g,0,none⟩) n c)∨w.heap.size≤g

end Go.Proofs.YtphfinlfabklmaaGreat

end
