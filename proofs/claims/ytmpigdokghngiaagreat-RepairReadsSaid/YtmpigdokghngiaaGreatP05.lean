/-
 TEXTS OF THE PROOF, one behind the other: Aid, QueRow, OpenS, QueFrame, PacPure, PacFrame, LnkFrame, Held, Blk, Rg, FnMap, CliMap, FraRead, FraSize, FraP, CliPure.
-/
import Derived.Test.YtmpigdokghngiaaGreatP04
import Derived.Lib.Hide
import Derived.BigRegion
import Derived.Maps.OwnSet
import Derived.ProofKit
import Derived.OpenShut
import Derived.Lib.SmallJoins
import Derived.Deep.Slices
import Derived.Deep.Fields
import Derived.ChangeSame
import Derived.Test.YtmpigdokghngiaaGreatProg
import Derived.Deep.RegionHeld
import Derived.MapKept
import Derived.Test.YtmpigdokghngiaaGreatRows
import Derived.Test.YtmpigdokghngiaaGreatP01

set_option maxHeartbeats 12800000
set_option maxRecDepth 100000

namespace Go.Proofs.YtmpigdokghngiaaGreat
section
open Go.RowKit

theorem below2Z {w a b:World} (h1:Below w.heap.size w a) (h2:Below a.heap.size a b):Below w.heap.size w b:=h1.trans (h2.mono h1.size)

theorem bl_allocZ {w a:World} (h:Below w.heap.size w a) (o:Obj):Below w.heap.size w (a.alloc o):=h.alloc h.size o

theorem bl_newZ (w:World) (o:Obj):Below w.heap.size w (w.alloc o):=(Below.refl _ _).alloc (Nat.le_refl _) o

theorem cellsAt_made {w:World} {cs:Array Value} {vs:List Value} (h:cs.toList=vs) (T:TypeId) {B:Nat} (hB:B=w.heap.size):CellsAt (w.alloc (.cells cs T)) B 0 vs:=by
 subst hB
 intro j u hu
 rw [Nat.zero_add,World.cell?_alloc_at _ _ _ _ rfl,← hu,← h]
 simp

theorem freeAt_made {w:World} {cs:Array Value} (T:TypeId):∀ i,(w.alloc (.cells cs T)).frozen? ⟨w.heap.size,i,none⟩=false:=fun i => by simp
end
section
open Go.RowKit

theorem chgOK:RowOK Tryz.prog chgVals 6 Chg.zero 105 24 (.agg #[.string ⟨#[]⟩,.bool false,.int .i64 0,.int .i64 0,.int .i64 0,.string ⟨#[]⟩]) 64 where
 len _:=rfl
 one a u hu:=by
  simp only [chgVals,List.mem_cons,List.not_mem_nil,or_false] at hu
  rcases hu with rfl | rfl | rfl | rfl | rfl | rfl <;> rfl
 pos:=by decide
 small:=by decide
 under:=Tryz.underlying24
 info:=Tryz.infoChange
 zvals:=rfl
 fits:=by decide

theorem Chgs.rdS {w:World} {v:Value} {t:List Chg} (h:Chgs w v t):RdS chgVals 6 Chg.zero w v t:=by
 obtain⟨a,cap,h1,h2,h3,h4,h5⟩:=h
 refine ⟨a,cap,h1,h2,h3,h4,?_⟩
 rcases h5 with h5 | ⟨b,off,e,hlt,hc⟩
 ·exact .inl h5
 ·refine .inr ⟨b,off,e,hlt,fun i hi => ?_⟩
  obtain⟨c0,c1,c2,c3,c4,c5⟩:=hc i hi
  intro j u hu
  unfold chgVals at hu
  match j,hu with
  | 0,hu => simp only [List.getElem?_cons_zero,Option.some.injEq] at hu; subst hu; exact c0
  | 1,hu => simp only [List.getElem?_cons_succ,List.getElem?_cons_zero,Option.some.injEq] at hu; subst hu; exact c1
  | 2,hu => simp only [List.getElem?_cons_succ,List.getElem?_cons_zero,Option.some.injEq] at hu; subst hu; exact c2
  | 3,hu => simp only [List.getElem?_cons_succ,List.getElem?_cons_zero,Option.some.injEq] at hu; subst hu; exact c3
  | 4,hu => simp only [List.getElem?_cons_succ,List.getElem?_cons_zero,Option.some.injEq] at hu; subst hu; exact c4
  | 5,hu => simp only [List.getElem?_cons_succ,List.getElem?_cons_zero,Option.some.injEq] at hu; subst hu; exact c5
  | j+6,hu => simp at hu

theorem chgs_of {w:World} {v:Value} {t:List Chg} (h:RdS chgVals 6 Chg.zero w v t):Chgs w v t:=by
 obtain⟨a,cap,h1,h2,h3,h4,h5⟩:=h
 refine ⟨a,cap,h1,h2,h3,h4,?_⟩
 rcases h5 with h5 | ⟨b,off,e,hlt,hc⟩
 ·exact .inl h5
 ·exact .inr ⟨b,off,e,hlt,fun i hi => cells6_of (hc i hi)⟩

abbrev OwnQ (w:World) (base:Nat) (v:Value) (l:List Chg):Prop:=OwnS chgVals 6 105 w base v l
theorem OwnQ.chgs {w:World} {base:Nat} {v:Value} {l:List Chg} (h:OwnQ w base v l):Chgs w v l:=chgs_of (OwnS.rd chgOK h)

def ShortC (l:List Chg):Prop:=∀ c ∈ l,c.c.length≤4294967296∧c.v.st.length≤4294967296
theorem ShortC.get {l:List Chg} (h:ShortC l) {k:Nat} (hk:k < l.length):(l.getD k Chg.zero).c.length≤4294967296∧(l.getD k Chg.zero).v.st.length≤4294967296:=by
 rw [List.getD_eq_getElem?_getD,List.getElem?_eq_getElem hk]
 exact h _ (List.getElem_mem hk)
end
section
open Go.ChangeShapes Go.WideShapes Go.ChangeAt Go.RowKit Go.Deep

theorem choose_S {α:Type} (zero:α) {n:Nat} {Q:Nat→α→Prop} (h:∀ i,i < n→∃ r,Q i r):∃ t:List α,t.length=n∧∀ i,i < n→Q i (t.getD i zero):=by
 induction n with
 | zero => exact⟨[],rfl,fun i hi => absurd hi (by omega)⟩
 | succ n ih =>
  obtain⟨t,hl,ht⟩:=ih fun i hi => h i (by omega)
  obtain⟨r,hr⟩:=h n (by omega)
  refine ⟨t ++ [r],by simp [hl],fun i hi => ?_⟩
  by_cases hin:i < n
  ·have:=ht i hin
   simp only [List.getD] at this ⊢
   rwa [List.getElem?_append_left (by omega)]
  ·obtain rfl:i=n:=by omega
   simp only [List.getD]
   rw [List.getElem?_append_right (by omega),hl]
   simpa using hr
end
section
open Go.ChangeShapes Go.WideShapes Go.ChangeAt Go.RowKit Go.Deep

section
variable {H:Type} {enc:TypeId × Value→H} {w:World} {base:Nat} {spare:Nat→Bool} {held:Bool}

def cFit (c:Chg):Prop:=c.c.length≤maxLen∧c.v.st.length≤maxLen

theorem trod_chgQ (fuel:Nat) (cs:List Value) (x:DataW H × List MemPlace) (h:DataW.trod enc Tryz.prog w base spare held fuel 105 cs=some x):∃ c:Chg,cs=chgVals c∧cFit c:=by
 obtain⟨c,hc,w1,w2⟩:=trod_chg h
 exact⟨c,hc,w1,w2⟩

theorem rdS_trodQ {fuel:Nat} {cs:List Value} {z:DataW H × List MemPlace} (hf:DataW.trod enc Tryz.prog w base spare held fuel 24 cs=some z) :
  ∃ v,cs=[v]∧∃ t:List Chg,Chgs w v t:=by
 rcases open_slice Tryz.underlying24 hf with ⟨hcs,_⟩ | ⟨x,len,cap,m,n,D',Pl,hcs,_,hl,hm,hmm,_,hi⟩
 ·exact⟨_,hcs,[],chgs_nil w⟩
 ·refine ⟨_,hcs,?_⟩
  have hlm:len≤m:=by rw [hmm]; split <;> omega
  rw [show Tryz.prog.cellsOf 105=6 from by kernel_rfl] at hi
  obtain⟨t,htl,ht⟩:=choose_S Chg.zero (n:=len) (Q:=fun i r => ∀ j u,(chgVals r)[j]?=some u→w.cell? ((x.add (i * 6)).add j)=some u) (fun i hil => by
   obtain⟨cs',hc,htr⟩:=hi i (by omega)
   obtain⟨_,hcl,hat⟩:=World.cells?_some hc
   obtain⟨r,rfl,_⟩:=trod_chgQ _ _ _ htr
   refine ⟨r,fun j u hu => ?_⟩
   have hj:j < 6:=by have:=(List.getElem?_eq_some_iff.1 hu).1; rwa [chgVals_len] at this
   rw [hat j hj,hu])
  refine ⟨t,chgs_of ⟨some x,cap,by rw [htl],by omega,by omega,(fun e => by cases e),?_⟩⟩
  by_cases h0:len=0
  ·exact .inl (List.length_eq_zero_iff.1 (by omega))
  ·obtain⟨b,off,spot⟩:=x
   have hc:=ht 0 (by omega) 0 _ rfl
   have hspot:spot=none:=by simpa [Addr.add] using World.cell?_spot hc
   subst hspot
   refine .inr ⟨b,off,rfl,?_,fun i hil => fun j u hu => ?_⟩
   ·have:=World.block_lt_of_cell? w _ hc
    simpa [Addr.add] using this
   ·have:=ht i (by omega) j u hu
    rwa [Addr.add_lit,Addr.add_lit] at this

def chg2Agg (a b:Chg):Value:=.agg #[.string ⟨a.c.toArray⟩,.bool a.on,.int .i64 a.v.sh,.int .i64 a.v.pr,.int .i64 a.v.si,.string ⟨a.v.st.toArray⟩,.string ⟨b.c.toArray⟩,.bool b.on,.int .i64 b.v.sh,.int .i64 b.v.pr,.int .i64 b.v.si,.string ⟨b.v.st.toArray⟩]

end
end
section

structure Cfg where
 room:Int
 burst:Int
 rate:Int
 per:Int

structure Bkt where
 tok:Int
 at':Int

def pcMay (c:Cfg):Bool:=decide (1≤c.room) && (decide (c.room≤16) && (decide (1≤c.burst) && (decide (c.burst≤64) && (decide (1≤c.rate) && (decide (c.rate≤16) && (decide (1≤c.per) && decide (c.per≤1000)))))))
def pcTime (n:Int):Bool:=decide (0≤n) && decide (n≤1099511627776)
def pcOne (c:Cfg) (b:Bkt):Bool:=pcMay c && (decide (0≤b.tok) && (decide (b.tok≤c.burst) && pcTime b.at'))

def pcNew (c:Cfg) (now:Int):Bkt × Nat:=if (pcMay c && pcTime now)=true then (⟨c.burst,now⟩,0) else (⟨0,0⟩,1)

def pcLev (c:Cfg) (b:Bkt) (now:Int):Int:=if now≤b.at' then b.tok else min c.burst (b.tok+(now - b.at') * c.rate)

def pcLevel (c:Cfg) (b:Bkt) (now:Int):Int:=if (pcOne c b && pcTime now)=true then pcLev c b now else 0

def pcTake (c:Cfg) (b:Bkt) (now:Int):Bkt × Bool :=
 if (pcOne c b && pcTime now)=true then
  (if pcLev c b now=0 then (⟨0,max now b.at'⟩,false) else (⟨pcLev c b now - 1,max now b.at'⟩,true))
 else (b,false)

def pcWait (c:Cfg) (b:Bkt) (now:Int):Int:=if (pcOne c b && pcTime now)=true then (if 1≤pcLev c b now then 0 else 1) else 0

theorem pcMay_iff {c:Cfg}:pcMay c=true ↔ 1≤c.room∧c.room≤16∧1≤c.burst∧c.burst≤64∧1≤c.rate∧c.rate≤16∧1≤c.per∧c.per≤1000:=by
 unfold pcMay; simp only [Bool.and_eq_true,decide_eq_true_eq]

theorem pcTime_iff {n:Int}:pcTime n=true ↔ 0≤n∧n≤1099511627776:=by
 unfold pcTime; simp only [Bool.and_eq_true,decide_eq_true_eq]

theorem pcOne_iff {c:Cfg} {b:Bkt}:pcOne c b=true ↔ pcMay c=true∧0≤b.tok∧b.tok≤c.burst∧0≤b.at'∧b.at'≤1099511627776:=by
 unfold pcOne; simp only [Bool.and_eq_true,decide_eq_true_eq,pcTime_iff]

theorem mul_ge {a r:Int} (ha:1≤a) (hr:1≤r):a≤a * r∧r≤a * r:=by
 have h1:a * 1≤a * r:=Int.mul_le_mul_of_nonneg_left hr (by omega)
 have h2:1 * r≤a * r:=Int.mul_le_mul_of_nonneg_right ha (by omega)
 omega

theorem pcLev_ge {c:Cfg} {b:Bkt} {now:Int} (h:pcOne c b=true):0≤pcLev c b now∧pcLev c b now≤c.burst∧min c.burst b.tok≤pcLev c b now:=by
 obtain⟨hm,h1,h2,h3,h4⟩:=pcOne_iff.1 h
 obtain⟨_,_,m1,m2,m3,m4,_,_⟩:=pcMay_iff.1 hm
 unfold pcLev
 split
 ·omega
 ·next hn =>
  obtain⟨g1,g2⟩:=mul_ge (a:=now - b.at') (r:=c.rate) (by omega) m3
  omega

theorem pcTake_in {c:Cfg} {b:Bkt} {now:Int} (h:pcOne c b=true) (hn:pcTime now=true) :
  pcTake c b now=if pcLev c b now=0 then (⟨0,max now b.at'⟩,false) else (⟨pcLev c b now - 1,max now b.at'⟩,true):=by
 unfold pcTake
 rw [if_pos (by rw [h,hn]; rfl)]

structure RateOK (c:Cfg) (b:Bkt) (at':List Int):Prop where
 left:∀ i (hi:i < at'.length),((at'.length - i:Nat):Int)+b.tok≤c.burst+c.rate * (b.at' - at'[i])
 all:∀ i k (hk:k < at'.length) (hik:i≤k),((k - i+1:Nat):Int)≤c.burst+c.rate * (at'[k] - at'[i]'(by omega))
end
section
open Go.ChangeShapes Go.WideShapes Go.ChangeAt Go.RowKit Go.Deep

structure CfgFit (c:Cfg):Prop where
 room:(Lit.int .i64 c.room).wf=true
 burst:(Lit.int .i64 c.burst).wf=true
 rate:(Lit.int .i64 c.rate).wf=true
 per:(Lit.int .i64 c.per).wf=true

structure BktFit (b:Bkt):Prop where
 tok:(Lit.int .i64 b.tok).wf=true
 at':(Lit.int .i64 b.at').wf=true

section
variable {H:Type} {enc:TypeId × Value→H} {w:World} {base:Nat} {spare:Nat→Bool} {held:Bool}

end
end
section
open Go.ChangeShapes Go.WideShapes Go.ChangeAt Go.RowKit Go.Deep

section
variable {H:Type} {enc:TypeId × Value→H} {w:World} {base:Nat} {spare:Nat→Bool} {held:Bool}

theorem trod_intL {fuel:Nat} {cs:List Value} {x:DataW H × List MemPlace} (h:DataW.trod enc Tryz.prog w base spare held fuel 3 cs=some x):∃ z,cs=[.int .i64 z]∧(Lit.int .i64 z).wf=true:=by
 obtain⟨z,e,_,hw⟩:=DataW.trod_int Tryz.underlying3 h
 exact⟨z,e,hw⟩

theorem list2_queL {α:Type} {l:List α} (h:l.length=2):∃ c0 c1,l=[c0,c1]:=by
 match l,h with
 | [c0,c1],_ => exact⟨c0,c1,rfl⟩

theorem trod_queL (fuel:Nat) (cs:List Value) (x:DataW H × List MemPlace) (h:DataW.trod enc Tryz.prog w base spare held fuel 26 cs=some x) :
  ∃ (a0:Value) (a1:Bool),cs=[a0,.bool a1]∧(∃ t:List Chg,Chgs w a0 t):=by
 obtain⟨xs,n,_,_,hl,hx,hf⟩:=DataW.trod_struct Tryz.underlying26 h
 have cc:Tryz.prog.cellsOf 26=2:=by kernel_rfl
 have ci:Tryz.prog.cellsOf 3=1:=by kernel_rfl
 have cx:Tryz.prog.cellsOf 9=1:=by kernel_rfl
 have cb:Tryz.prog.cellsOf 4=1:=by kernel_rfl
 have cq:Tryz.prog.cellsOf 24=1:=by kernel_rfl
 rw [cc] at hl
 obtain⟨c0,c1,rfl⟩:=list2_queL hl
 have get:∀ i,i < 2→xs[i]?=some (xs.getD i (.nil,[])):=fun i hi => by
  have:i < xs.length:=by rw [hx]; exact hi
  simp [List.getD,List.getElem?_eq_getElem this]
 have f0:DataW.trod enc Tryz.prog w base spare held n 24 (([c0,c1].drop 0).take (Tryz.prog.cellsOf 24))=some (xs.getD 0 (.nil,[])):=(hf 0 _ rfl).trans (get 0 (by omega))
 rw [cq] at f0
 obtain⟨z0,e0,w0⟩:=rdS_trodQ f0
 have f1:DataW.trod enc Tryz.prog w base spare held n 4 (([c0,c1].drop 1).take (Tryz.prog.cellsOf 4))=some (xs.getD 1 (.nil,[])):=(hf 1 _ rfl).trans (get 1 (by omega))
 rw [cb] at f1
 obtain⟨z1,e1,_⟩:=DataW.trod_bool Tryz.underlying4 f1
 simp at e0 e1
 subst e0 e1
 exact⟨c0,z1,rfl,w0⟩

theorem list2_bktL {α:Type} {l:List α} (h:l.length=2):∃ c0 c1,l=[c0,c1]:=by
 match l,h with
 | [c0,c1],_ => exact⟨c0,c1,rfl⟩

theorem trod_bktL (fuel:Nat) (cs:List Value) (x:DataW H × List MemPlace) (h:DataW.trod enc Tryz.prog w base spare held fuel 28 cs=some x) :
  ∃ (a0:Int) (a1:Int),cs=[.int .i64 a0,.int .i64 a1]∧(Lit.int .i64 a0).wf=true∧(Lit.int .i64 a1).wf=true:=by
 obtain⟨xs,n,_,_,hl,hx,hf⟩:=DataW.trod_struct Tryz.underlying28 h
 have cc:Tryz.prog.cellsOf 28=2:=by kernel_rfl
 have ci:Tryz.prog.cellsOf 3=1:=by kernel_rfl
 have cx:Tryz.prog.cellsOf 9=1:=by kernel_rfl
 rw [cc] at hl
 obtain⟨c0,c1,rfl⟩:=list2_bktL hl
 have get:∀ i,i < 2→xs[i]?=some (xs.getD i (.nil,[])):=fun i hi => by
  have:i < xs.length:=by rw [hx]; exact hi
  simp [List.getD,List.getElem?_eq_getElem this]
 have f0:DataW.trod enc Tryz.prog w base spare held n 3 (([c0,c1].drop 0).take (Tryz.prog.cellsOf 3))=some (xs.getD 0 (.nil,[])):=(hf 0 _ rfl).trans (get 0 (by omega))
 rw [ci] at f0
 obtain⟨z0,e0,w0⟩:=trod_intL f0
 have f1:DataW.trod enc Tryz.prog w base spare held n 3 (([c0,c1].drop 1).take (Tryz.prog.cellsOf 3))=some (xs.getD 1 (.nil,[])):=(hf 1 _ rfl).trans (get 1 (by omega))
 rw [ci] at f1
 obtain⟨z1,e1,w1⟩:=trod_intL f1
 simp at e0 e1
 subst e0 e1
 exact⟨z0,z1,rfl,w0,w1⟩

theorem list7_lnk {α:Type} {l:List α} (h:l.length=7):∃ c0 c1 c2 c3 c4 c5 c6,l=[c0,c1,c2,c3,c4,c5,c6]:=by
 match l,h with
 | [c0,c1,c2,c3,c4,c5,c6],_ => exact⟨c0,c1,c2,c3,c4,c5,c6,rfl⟩

theorem trod_lnk (fuel:Nat) (cs:List Value) (x:DataW H × List MemPlace) (h:DataW.trod enc Tryz.prog w base spare held fuel 30 cs=some x) :
  ∃ (a0:Int) (a1:Value) (a2:Bool) (a3:Int) (a4:Int) (a5:Bool) (a6:Int),cs=[.int .i64 a0,a1,.bool a2,.int .i64 a3,.int .i64 a4,.bool a5,.int .i64 a6]∧(Lit.int .i64 a0).wf=true∧(∃ t:List Chg,Chgs w a1 t)∧(Lit.int .i64 a3).wf=true∧(Lit.int .i64 a4).wf=true∧(Lit.int .i64 a6).wf=true:=by
 obtain⟨xs,n,_,_,hl,hx,hf⟩:=DataW.trod_struct Tryz.underlying30 h
 have cc:Tryz.prog.cellsOf 30=7:=by kernel_rfl
 have ci:Tryz.prog.cellsOf 3=1:=by kernel_rfl
 have cx:Tryz.prog.cellsOf 9=1:=by kernel_rfl
 have cb:Tryz.prog.cellsOf 4=1:=by kernel_rfl
 have ct1:Tryz.prog.cellsOf 26=2:=by kernel_rfl
 have ct2:Tryz.prog.cellsOf 28=2:=by kernel_rfl
 rw [cc] at hl
 obtain⟨c0,c1,c2,c3,c4,c5,c6,rfl⟩:=list7_lnk hl
 have get:∀ i,i < 5→xs[i]?=some (xs.getD i (.nil,[])):=fun i hi => by
  have:i < xs.length:=by rw [hx]; exact hi
  simp [List.getD,List.getElem?_eq_getElem this]
 have f0:DataW.trod enc Tryz.prog w base spare held n 3 (([c0,c1,c2,c3,c4,c5,c6].drop 0).take (Tryz.prog.cellsOf 3))=some (xs.getD 0 (.nil,[])):=(hf 0 _ rfl).trans (get 0 (by omega))
 rw [ci] at f0
 obtain⟨z0,e0,w0⟩:=trod_intL f0
 have f1:DataW.trod enc Tryz.prog w base spare held n 26 (([c0,c1,c2,c3,c4,c5,c6].drop 1).take (Tryz.prog.cellsOf 26))=some (xs.getD 1 (.nil,[])):=(hf 1 _ rfl).trans (get 1 (by omega))
 rw [ct1] at f1
 obtain⟨z1_0,z1_1,e1,w1_0⟩:=trod_queL _ _ _ f1
 have f2:DataW.trod enc Tryz.prog w base spare held n 28 (([c0,c1,c2,c3,c4,c5,c6].drop 3).take (Tryz.prog.cellsOf 28))=some (xs.getD 2 (.nil,[])):=(hf 2 _ rfl).trans (get 2 (by omega))
 rw [ct2] at f2
 obtain⟨z2_0,z2_1,e2,w2_0,w2_1⟩:=trod_bktL _ _ _ f2
 have f3:DataW.trod enc Tryz.prog w base spare held n 4 (([c0,c1,c2,c3,c4,c5,c6].drop 5).take (Tryz.prog.cellsOf 4))=some (xs.getD 3 (.nil,[])):=(hf 3 _ rfl).trans (get 3 (by omega))
 rw [cb] at f3
 obtain⟨z3,e3,_⟩:=DataW.trod_bool Tryz.underlying4 f3
 have f4:DataW.trod enc Tryz.prog w base spare held n 3 (([c0,c1,c2,c3,c4,c5,c6].drop 6).take (Tryz.prog.cellsOf 3))=some (xs.getD 4 (.nil,[])):=(hf 4 _ rfl).trans (get 4 (by omega))
 rw [ci] at f4
 obtain⟨z4,e4,w4⟩:=trod_intL f4
 simp at e0 e1 e2 e3 e4
 obtain⟨rfl,rfl⟩:=e1
 obtain⟨rfl,rfl⟩:=e2
 subst e0 e3 e4
 exact⟨z0,c1,z1_1,z2_0,z2_1,z3,z4,rfl,w0,w1_0,w2_0,w2_1,w4⟩

theorem open_lnk {r:Reach} {b0:Nat} {v:Value} {d:DataW H} {p:List MemPlace} (hv:Value.okWide Tryz.prog w r b0 30 v) (h:DataW.Trod enc Tryz.prog w base spare held 30 v d p) :
  ∃ (a0:Int) (a1:Value) (a2:Bool) (a3:Int) (a4:Int) (a5:Bool) (a6:Int),v=.agg #[.int .i64 a0,a1,.bool a2,.int .i64 a3,.int .i64 a4,.bool a5,.int .i64 a6]∧(Lit.int .i64 a0).wf=true∧(∃ t:List Chg,Chgs w a1 t)∧(Lit.int .i64 a3).wf=true∧(Lit.int .i64 a4).wf=true∧(Lit.int .i64 a6).wf=true:=by
 obtain⟨cs,rfl,_⟩:=okWide_struct Tryz.underlying30 hv
 obtain⟨fuel,hf⟩:=h
 obtain⟨a0,a1,a2,a3,a4,a5,a6,hc,ww⟩:=trod_lnk _ _ _ hf
 refine ⟨a0,a1,a2,a3,a4,a5,a6,?_,ww⟩
 obtain⟨l⟩:=cs
 simp only [Value.cells] at hc
 rw [hc]

end
end
section
open Go.RowKit

def heldB (X:World) (bs:List (Nat × List Value)):Prop:=∀ p ∈ bs,CellsAt X p.1 0 p.2

theorem heldB_nil (X:World):heldB X []:=fun p h => by cases h
theorem heldB_cons {X:World} {b:Nat} {vs:List Value} {bs:List (Nat × List Value)} (h:CellsAt X b 0 vs) (ht:heldB X bs):heldB X ((b,vs) :: bs):=fun p hp => by
 rcases List.mem_cons.1 hp with rfl | hp
 ·exact h
 ·exact ht p hp
theorem heldB_up {W X:World} {bs:List (Nat × List Value)} (hb:Below W.heap.size W X) (h:heldB W bs):heldB X bs:=fun p hp => (h p hp).later hb
theorem heldB_get {X:World} {bs:List (Nat × List Value)} (h:heldB X bs) {b:Nat} {vs:List Value} {i:Nat} {v:Value} (hm:(b,vs) ∈ bs) (hi:vs[i]?=some v):X.cell? ⟨b,i,none⟩=some v:=by
 have:=h _ hm i v hi
 rwa [Nat.zero_add] at this

def heldD (X:World) (bs:List (Nat × List Value)) (b off:Nat) (v:Value):Prop:=heldB X bs∧X.cell? ⟨b,off,none⟩=some v

theorem cellsAt_block {X:World} {b:Nat} {cs:Array Value} {T:TypeId} (h:X.heap[b]?=some (.cells cs T (0,0))):CellsAt X b 0 cs.toList:=by
 intro j u hu
 have hj:cs[j]?=some u:=by rw [← hu]; simp
 rw [Nat.zero_add]
 unfold World.cell?
 rw [h]
 simpa using hj
end
section
open Go.RowKit

theorem upQ {w w':World} {b:Nat} {o:Obj} (h:w.heap[b]?=some o) (hb:Below w.heap.size w w'):w'.heap[b]?=some o :=
 (hb.block b (Array.getElem?_eq_some_iff.1 h).1).trans h

theorem newQ (w:World) (o:Obj):(w.alloc o).heap[w.heap.size]?=some o:=(MapKept.heap_alloc w o).1

theorem setCell_size (w:World) (p:Addr) (v:Value):(w.setCell p v).heap.size=w.heap.size:=by
 simp [World.setCell]

def stN1 (w:World) (B:Nat) (y0:Value):World:=w.setCell ⟨B,0,none⟩ y0

theorem blk2 {w:World} {B:Nat} {x0 x1:Value} {T:TypeId} (h:w.heap[B]?=some (.cells #[x0,x1] T (0,0))):(w.cell? ⟨B,0,none⟩=some x0∧w.cell? ⟨B,1,none⟩=some x1)∧(w.frozen? ⟨B,0,none⟩=false∧w.frozen? ⟨B,1,none⟩=false) :=
 ⟨⟨cell_of_row w B 0 _ _ (0,0) h,cell_of_row w B 1 _ _ (0,0) h⟩,⟨frozen_of_row w B 0 _ _ h,frozen_of_row w B 1 _ _ h⟩⟩

def stN2 (w:World) (B:Nat) (y0 y1:Value):World:=(w.setCell ⟨B,0,none⟩ y0).setCell ⟨B,1,none⟩ y1

theorem blk3 {w:World} {B:Nat} {x0 x1 x2:Value} {T:TypeId} (h:w.heap[B]?=some (.cells #[x0,x1,x2] T (0,0))):(w.cell? ⟨B,0,none⟩=some x0∧w.cell? ⟨B,1,none⟩=some x1∧w.cell? ⟨B,2,none⟩=some x2)∧(w.frozen? ⟨B,0,none⟩=false∧w.frozen? ⟨B,1,none⟩=false∧w.frozen? ⟨B,2,none⟩=false) :=
 ⟨⟨cell_of_row w B 0 _ _ (0,0) h,cell_of_row w B 1 _ _ (0,0) h,cell_of_row w B 2 _ _ (0,0) h⟩,⟨frozen_of_row w B 0 _ _ h,frozen_of_row w B 1 _ _ h,frozen_of_row w B 2 _ _ h⟩⟩

def stN3 (w:World) (B:Nat) (y0 y1 y2:Value):World:=((w.setCell ⟨B,0,none⟩ y0).setCell ⟨B,1,none⟩ y1).setCell ⟨B,2,none⟩ y2

theorem stN3_heap {w:World} {B:Nat} {x0 x1 x2:Value} {T:TypeId} (h:w.heap[B]?=some (.cells #[x0,x1,x2] T (0,0))) (y0 y1 y2:Value):(stN3 w B y0 y1 y2).heap[B]?=some (.cells #[y0,y1,y2] T (0,0)):=by
 have h0:(w.setCell ⟨B,0,none⟩ y0).heap[B]?=some (.cells #[y0,x1,x2] T (0,0)):=heap_setCell_same w B 0 _ _ y0 h
 have h1:((w.setCell ⟨B,0,none⟩ y0).setCell ⟨B,1,none⟩ y1).heap[B]?=some (.cells #[y0,y1,x2] T (0,0)):=heap_setCell_same _ B 1 _ _ y1 h0
 have h2:(((w.setCell ⟨B,0,none⟩ y0).setCell ⟨B,1,none⟩ y1).setCell ⟨B,2,none⟩ y2).heap[B]?=some (.cells #[y0,y1,y2] T (0,0)):=heap_setCell_same _ B 2 _ _ y2 h1
 exact h2

theorem blk4 {w:World} {B:Nat} {x0 x1 x2 x3:Value} {T:TypeId} (h:w.heap[B]?=some (.cells #[x0,x1,x2,x3] T (0,0))):(w.cell? ⟨B,0,none⟩=some x0∧w.cell? ⟨B,1,none⟩=some x1∧w.cell? ⟨B,2,none⟩=some x2∧w.cell? ⟨B,3,none⟩=some x3)∧(w.frozen? ⟨B,0,none⟩=false∧w.frozen? ⟨B,1,none⟩=false∧w.frozen? ⟨B,2,none⟩=false∧w.frozen? ⟨B,3,none⟩=false) :=
 ⟨⟨cell_of_row w B 0 _ _ (0,0) h,cell_of_row w B 1 _ _ (0,0) h,cell_of_row w B 2 _ _ (0,0) h,cell_of_row w B 3 _ _ (0,0) h⟩,⟨frozen_of_row w B 0 _ _ h,frozen_of_row w B 1 _ _ h,frozen_of_row w B 2 _ _ h,frozen_of_row w B 3 _ _ h⟩⟩

def stN4 (w:World) (B:Nat) (y0 y1 y2 y3:Value):World:=(((w.setCell ⟨B,0,none⟩ y0).setCell ⟨B,1,none⟩ y1).setCell ⟨B,2,none⟩ y2).setCell ⟨B,3,none⟩ y3

def stN5 (w:World) (B:Nat) (y0 y1 y2 y3 y4:Value):World:=((((w.setCell ⟨B,0,none⟩ y0).setCell ⟨B,1,none⟩ y1).setCell ⟨B,2,none⟩ y2).setCell ⟨B,3,none⟩ y3).setCell ⟨B,4,none⟩ y4

theorem blk6 {w:World} {B:Nat} {x0 x1 x2 x3 x4 x5:Value} {T:TypeId} (h:w.heap[B]?=some (.cells #[x0,x1,x2,x3,x4,x5] T (0,0))):(w.cell? ⟨B,0,none⟩=some x0∧w.cell? ⟨B,1,none⟩=some x1∧w.cell? ⟨B,2,none⟩=some x2∧w.cell? ⟨B,3,none⟩=some x3∧w.cell? ⟨B,4,none⟩=some x4∧w.cell? ⟨B,5,none⟩=some x5)∧(w.frozen? ⟨B,0,none⟩=false∧w.frozen? ⟨B,1,none⟩=false∧w.frozen? ⟨B,2,none⟩=false∧w.frozen? ⟨B,3,none⟩=false∧w.frozen? ⟨B,4,none⟩=false∧w.frozen? ⟨B,5,none⟩=false) :=
 ⟨⟨cell_of_row w B 0 _ _ (0,0) h,cell_of_row w B 1 _ _ (0,0) h,cell_of_row w B 2 _ _ (0,0) h,cell_of_row w B 3 _ _ (0,0) h,cell_of_row w B 4 _ _ (0,0) h,cell_of_row w B 5 _ _ (0,0) h⟩,⟨frozen_of_row w B 0 _ _ h,frozen_of_row w B 1 _ _ h,frozen_of_row w B 2 _ _ h,frozen_of_row w B 3 _ _ h,frozen_of_row w B 4 _ _ h,frozen_of_row w B 5 _ _ h⟩⟩

def stN6 (w:World) (B:Nat) (y0 y1 y2 y3 y4 y5:Value):World:=(((((w.setCell ⟨B,0,none⟩ y0).setCell ⟨B,1,none⟩ y1).setCell ⟨B,2,none⟩ y2).setCell ⟨B,3,none⟩ y3).setCell ⟨B,4,none⟩ y4).setCell ⟨B,5,none⟩ y5

theorem blk7 {w:World} {B:Nat} {x0 x1 x2 x3 x4 x5 x6:Value} {T:TypeId} (h:w.heap[B]?=some (.cells #[x0,x1,x2,x3,x4,x5,x6] T (0,0))):(w.cell? ⟨B,0,none⟩=some x0∧w.cell? ⟨B,1,none⟩=some x1∧w.cell? ⟨B,2,none⟩=some x2∧w.cell? ⟨B,3,none⟩=some x3∧w.cell? ⟨B,4,none⟩=some x4∧w.cell? ⟨B,5,none⟩=some x5∧w.cell? ⟨B,6,none⟩=some x6)∧(w.frozen? ⟨B,0,none⟩=false∧w.frozen? ⟨B,1,none⟩=false∧w.frozen? ⟨B,2,none⟩=false∧w.frozen? ⟨B,3,none⟩=false∧w.frozen? ⟨B,4,none⟩=false∧w.frozen? ⟨B,5,none⟩=false∧w.frozen? ⟨B,6,none⟩=false) :=
 ⟨⟨cell_of_row w B 0 _ _ (0,0) h,cell_of_row w B 1 _ _ (0,0) h,cell_of_row w B 2 _ _ (0,0) h,cell_of_row w B 3 _ _ (0,0) h,cell_of_row w B 4 _ _ (0,0) h,cell_of_row w B 5 _ _ (0,0) h,cell_of_row w B 6 _ _ (0,0) h⟩,⟨frozen_of_row w B 0 _ _ h,frozen_of_row w B 1 _ _ h,frozen_of_row w B 2 _ _ h,frozen_of_row w B 3 _ _ h,frozen_of_row w B 4 _ _ h,frozen_of_row w B 5 _ _ h,frozen_of_row w B 6 _ _ h⟩⟩

def stN7 (w:World) (B:Nat) (y0 y1 y2 y3 y4 y5 y6:Value):World:=((((((w.setCell ⟨B,0,none⟩ y0).setCell ⟨B,1,none⟩ y1).setCell ⟨B,2,none⟩ y2).setCell ⟨B,3,none⟩ y3).setCell ⟨B,4,none⟩ y4).setCell ⟨B,5,none⟩ y5).setCell ⟨B,6,none⟩ y6

theorem stN7_heap {w:World} {B:Nat} {x0 x1 x2 x3 x4 x5 x6:Value} {T:TypeId} (h:w.heap[B]?=some (.cells #[x0,x1,x2,x3,x4,x5,x6] T (0,0))) (y0 y1 y2 y3 y4 y5 y6:Value):(stN7 w B y0 y1 y2 y3 y4 y5 y6).heap[B]?=some (.cells #[y0,y1,y2,y3,y4,y5,y6] T (0,0)):=by
 have h0:(w.setCell ⟨B,0,none⟩ y0).heap[B]?=some (.cells #[y0,x1,x2,x3,x4,x5,x6] T (0,0)):=heap_setCell_same w B 0 _ _ y0 h
 have h1:((w.setCell ⟨B,0,none⟩ y0).setCell ⟨B,1,none⟩ y1).heap[B]?=some (.cells #[y0,y1,x2,x3,x4,x5,x6] T (0,0)):=heap_setCell_same _ B 1 _ _ y1 h0
 have h2:(((w.setCell ⟨B,0,none⟩ y0).setCell ⟨B,1,none⟩ y1).setCell ⟨B,2,none⟩ y2).heap[B]?=some (.cells #[y0,y1,y2,x3,x4,x5,x6] T (0,0)):=heap_setCell_same _ B 2 _ _ y2 h1
 have h3:((((w.setCell ⟨B,0,none⟩ y0).setCell ⟨B,1,none⟩ y1).setCell ⟨B,2,none⟩ y2).setCell ⟨B,3,none⟩ y3).heap[B]?=some (.cells #[y0,y1,y2,y3,x4,x5,x6] T (0,0)):=heap_setCell_same _ B 3 _ _ y3 h2
 have h4:(((((w.setCell ⟨B,0,none⟩ y0).setCell ⟨B,1,none⟩ y1).setCell ⟨B,2,none⟩ y2).setCell ⟨B,3,none⟩ y3).setCell ⟨B,4,none⟩ y4).heap[B]?=some (.cells #[y0,y1,y2,y3,y4,x5,x6] T (0,0)):=heap_setCell_same _ B 4 _ _ y4 h3
 have h5:((((((w.setCell ⟨B,0,none⟩ y0).setCell ⟨B,1,none⟩ y1).setCell ⟨B,2,none⟩ y2).setCell ⟨B,3,none⟩ y3).setCell ⟨B,4,none⟩ y4).setCell ⟨B,5,none⟩ y5).heap[B]?=some (.cells #[y0,y1,y2,y3,y4,y5,x6] T (0,0)):=heap_setCell_same _ B 5 _ _ y5 h4
 have h6:(((((((w.setCell ⟨B,0,none⟩ y0).setCell ⟨B,1,none⟩ y1).setCell ⟨B,2,none⟩ y2).setCell ⟨B,3,none⟩ y3).setCell ⟨B,4,none⟩ y4).setCell ⟨B,5,none⟩ y5).setCell ⟨B,6,none⟩ y6).heap[B]?=some (.cells #[y0,y1,y2,y3,y4,y5,y6] T (0,0)):=heap_setCell_same _ B 6 _ _ y6 h5
 exact h6

theorem stN7_far (w:World) (B:Nat) (y0 y1 y2 y3 y4 y5 y6:Value) {k:Nat} (hk:¬ k=B):(stN7 w B y0 y1 y2 y3 y4 y5 y6).heap[k]?=w.heap[k]?:=by
 unfold stN7
 rw [Below.heap_setCell _ _ _ k hk,Below.heap_setCell _ _ _ k hk,Below.heap_setCell _ _ _ k hk,Below.heap_setCell _ _ _ k hk,Below.heap_setCell _ _ _ k hk,Below.heap_setCell _ _ _ k hk,Below.heap_setCell _ _ _ k hk]

theorem stN7_below {w0 w:World} {n B:Nat} (h:Below n w0 w) (hB:n≤B) (y0 y1 y2 y3 y4 y5 y6:Value):Below n w0 (stN7 w B y0 y1 y2 y3 y4 y5 y6):=by
 unfold stN7
 exact ((((((h.setCell hB _).setCell hB _).setCell hB _).setCell hB _).setCell hB _).setCell hB _).setCell hB _

def stN8 (w:World) (B:Nat) (y0 y1 y2 y3 y4 y5 y6 y7:Value):World:=(((((((w.setCell ⟨B,0,none⟩ y0).setCell ⟨B,1,none⟩ y1).setCell ⟨B,2,none⟩ y2).setCell ⟨B,3,none⟩ y3).setCell ⟨B,4,none⟩ y4).setCell ⟨B,5,none⟩ y5).setCell ⟨B,6,none⟩ y6).setCell ⟨B,7,none⟩ y7

theorem blk10 {w:World} {B:Nat} {x0 x1 x2 x3 x4 x5 x6 x7 x8 x9:Value} {T:TypeId} (h:w.heap[B]?=some (.cells #[x0,x1,x2,x3,x4,x5,x6,x7,x8,x9] T (0,0))):(w.cell? ⟨B,0,none⟩=some x0∧w.cell? ⟨B,1,none⟩=some x1∧w.cell? ⟨B,2,none⟩=some x2∧w.cell? ⟨B,3,none⟩=some x3∧w.cell? ⟨B,4,none⟩=some x4∧w.cell? ⟨B,5,none⟩=some x5∧w.cell? ⟨B,6,none⟩=some x6∧w.cell? ⟨B,7,none⟩=some x7∧w.cell? ⟨B,8,none⟩=some x8∧w.cell? ⟨B,9,none⟩=some x9)∧(w.frozen? ⟨B,0,none⟩=false∧w.frozen? ⟨B,1,none⟩=false∧w.frozen? ⟨B,2,none⟩=false∧w.frozen? ⟨B,3,none⟩=false∧w.frozen? ⟨B,4,none⟩=false∧w.frozen? ⟨B,5,none⟩=false∧w.frozen? ⟨B,6,none⟩=false∧w.frozen? ⟨B,7,none⟩=false∧w.frozen? ⟨B,8,none⟩=false∧w.frozen? ⟨B,9,none⟩=false) :=
 ⟨⟨cell_of_row w B 0 _ _ (0,0) h,cell_of_row w B 1 _ _ (0,0) h,cell_of_row w B 2 _ _ (0,0) h,cell_of_row w B 3 _ _ (0,0) h,cell_of_row w B 4 _ _ (0,0) h,cell_of_row w B 5 _ _ (0,0) h,cell_of_row w B 6 _ _ (0,0) h,cell_of_row w B 7 _ _ (0,0) h,cell_of_row w B 8 _ _ (0,0) h,cell_of_row w B 9 _ _ (0,0) h⟩,⟨frozen_of_row w B 0 _ _ h,frozen_of_row w B 1 _ _ h,frozen_of_row w B 2 _ _ h,frozen_of_row w B 3 _ _ h,frozen_of_row w B 4 _ _ h,frozen_of_row w B 5 _ _ h,frozen_of_row w B 6 _ _ h,frozen_of_row w B 7 _ _ h,frozen_of_row w B 8 _ _ h,frozen_of_row w B 9 _ _ h⟩⟩

def stN10 (w:World) (B:Nat) (y0 y1 y2 y3 y4 y5 y6 y7 y8 y9:Value):World:=(((((((((w.setCell ⟨B,0,none⟩ y0).setCell ⟨B,1,none⟩ y1).setCell ⟨B,2,none⟩ y2).setCell ⟨B,3,none⟩ y3).setCell ⟨B,4,none⟩ y4).setCell ⟨B,5,none⟩ y5).setCell ⟨B,6,none⟩ y6).setCell ⟨B,7,none⟩ y7).setCell ⟨B,8,none⟩ y8).setCell ⟨B,9,none⟩ y9

theorem stN10_heap {w:World} {B:Nat} {x0 x1 x2 x3 x4 x5 x6 x7 x8 x9:Value} {T:TypeId} (h:w.heap[B]?=some (.cells #[x0,x1,x2,x3,x4,x5,x6,x7,x8,x9] T (0,0))) (y0 y1 y2 y3 y4 y5 y6 y7 y8 y9:Value):(stN10 w B y0 y1 y2 y3 y4 y5 y6 y7 y8 y9).heap[B]?=some (.cells #[y0,y1,y2,y3,y4,y5,y6,y7,y8,y9] T (0,0)):=by
 have h0:(w.setCell ⟨B,0,none⟩ y0).heap[B]?=some (.cells #[y0,x1,x2,x3,x4,x5,x6,x7,x8,x9] T (0,0)):=heap_setCell_same w B 0 _ _ y0 h
 have h1:((w.setCell ⟨B,0,none⟩ y0).setCell ⟨B,1,none⟩ y1).heap[B]?=some (.cells #[y0,y1,x2,x3,x4,x5,x6,x7,x8,x9] T (0,0)):=heap_setCell_same _ B 1 _ _ y1 h0
 have h2:(((w.setCell ⟨B,0,none⟩ y0).setCell ⟨B,1,none⟩ y1).setCell ⟨B,2,none⟩ y2).heap[B]?=some (.cells #[y0,y1,y2,x3,x4,x5,x6,x7,x8,x9] T (0,0)):=heap_setCell_same _ B 2 _ _ y2 h1
 have h3:((((w.setCell ⟨B,0,none⟩ y0).setCell ⟨B,1,none⟩ y1).setCell ⟨B,2,none⟩ y2).setCell ⟨B,3,none⟩ y3).heap[B]?=some (.cells #[y0,y1,y2,y3,x4,x5,x6,x7,x8,x9] T (0,0)):=heap_setCell_same _ B 3 _ _ y3 h2
 have h4:(((((w.setCell ⟨B,0,none⟩ y0).setCell ⟨B,1,none⟩ y1).setCell ⟨B,2,none⟩ y2).setCell ⟨B,3,none⟩ y3).setCell ⟨B,4,none⟩ y4).heap[B]?=some (.cells #[y0,y1,y2,y3,y4,x5,x6,x7,x8,x9] T (0,0)):=heap_setCell_same _ B 4 _ _ y4 h3
 have h5:((((((w.setCell ⟨B,0,none⟩ y0).setCell ⟨B,1,none⟩ y1).setCell ⟨B,2,none⟩ y2).setCell ⟨B,3,none⟩ y3).setCell ⟨B,4,none⟩ y4).setCell ⟨B,5,none⟩ y5).heap[B]?=some (.cells #[y0,y1,y2,y3,y4,y5,x6,x7,x8,x9] T (0,0)):=heap_setCell_same _ B 5 _ _ y5 h4
 have h6:(((((((w.setCell ⟨B,0,none⟩ y0).setCell ⟨B,1,none⟩ y1).setCell ⟨B,2,none⟩ y2).setCell ⟨B,3,none⟩ y3).setCell ⟨B,4,none⟩ y4).setCell ⟨B,5,none⟩ y5).setCell ⟨B,6,none⟩ y6).heap[B]?=some (.cells #[y0,y1,y2,y3,y4,y5,y6,x7,x8,x9] T (0,0)):=heap_setCell_same _ B 6 _ _ y6 h5
 have h7:((((((((w.setCell ⟨B,0,none⟩ y0).setCell ⟨B,1,none⟩ y1).setCell ⟨B,2,none⟩ y2).setCell ⟨B,3,none⟩ y3).setCell ⟨B,4,none⟩ y4).setCell ⟨B,5,none⟩ y5).setCell ⟨B,6,none⟩ y6).setCell ⟨B,7,none⟩ y7).heap[B]?=some (.cells #[y0,y1,y2,y3,y4,y5,y6,y7,x8,x9] T (0,0)):=heap_setCell_same _ B 7 _ _ y7 h6
 have h8:(((((((((w.setCell ⟨B,0,none⟩ y0).setCell ⟨B,1,none⟩ y1).setCell ⟨B,2,none⟩ y2).setCell ⟨B,3,none⟩ y3).setCell ⟨B,4,none⟩ y4).setCell ⟨B,5,none⟩ y5).setCell ⟨B,6,none⟩ y6).setCell ⟨B,7,none⟩ y7).setCell ⟨B,8,none⟩ y8).heap[B]?=some (.cells #[y0,y1,y2,y3,y4,y5,y6,y7,y8,x9] T (0,0)):=heap_setCell_same _ B 8 _ _ y8 h7
 have h9:((((((((((w.setCell ⟨B,0,none⟩ y0).setCell ⟨B,1,none⟩ y1).setCell ⟨B,2,none⟩ y2).setCell ⟨B,3,none⟩ y3).setCell ⟨B,4,none⟩ y4).setCell ⟨B,5,none⟩ y5).setCell ⟨B,6,none⟩ y6).setCell ⟨B,7,none⟩ y7).setCell ⟨B,8,none⟩ y8).setCell ⟨B,9,none⟩ y9).heap[B]?=some (.cells #[y0,y1,y2,y3,y4,y5,y6,y7,y8,y9] T (0,0)):=heap_setCell_same _ B 9 _ _ y9 h8
 exact h9

theorem stN10_far (w:World) (B:Nat) (y0 y1 y2 y3 y4 y5 y6 y7 y8 y9:Value) {k:Nat} (hk:¬ k=B):(stN10 w B y0 y1 y2 y3 y4 y5 y6 y7 y8 y9).heap[k]?=w.heap[k]?:=by
 unfold stN10
 rw [Below.heap_setCell _ _ _ k hk,Below.heap_setCell _ _ _ k hk,Below.heap_setCell _ _ _ k hk,Below.heap_setCell _ _ _ k hk,Below.heap_setCell _ _ _ k hk,Below.heap_setCell _ _ _ k hk,Below.heap_setCell _ _ _ k hk,Below.heap_setCell _ _ _ k hk,Below.heap_setCell _ _ _ k hk,Below.heap_setCell _ _ _ k hk]

theorem stN10_below {w0 w:World} {n B:Nat} (h:Below n w0 w) (hB:n≤B) (y0 y1 y2 y3 y4 y5 y6 y7 y8 y9:Value):Below n w0 (stN10 w B y0 y1 y2 y3 y4 y5 y6 y7 y8 y9):=by
 unfold stN10
 exact (((((((((h.setCell hB _).setCell hB _).setCell hB _).setCell hB _).setCell hB _).setCell hB _).setCell hB _).setCell hB _).setCell hB _).setCell hB _

def stN13 (w:World) (B:Nat) (y0 y1 y2 y3 y4 y5 y6 y7 y8 y9 y10 y11 y12:Value):World:=((((((((((((w.setCell ⟨B,0,none⟩ y0).setCell ⟨B,1,none⟩ y1).setCell ⟨B,2,none⟩ y2).setCell ⟨B,3,none⟩ y3).setCell ⟨B,4,none⟩ y4).setCell ⟨B,5,none⟩ y5).setCell ⟨B,6,none⟩ y6).setCell ⟨B,7,none⟩ y7).setCell ⟨B,8,none⟩ y8).setCell ⟨B,9,none⟩ y9).setCell ⟨B,10,none⟩ y10).setCell ⟨B,11,none⟩ y11).setCell ⟨B,12,none⟩ y12
end
section
open Go.RowKit

section
variable {P:Program} {ops:Array Oper} {Q:Exit→Act→World→Prop} {md:Region.Mode} {S:World→Prop}

theorem tkZ (i:Nat) {oi:Oper} {v:Value} {fuel:Nat} {listed:Array Bool} {a a':Act} {w:World} (h:wpAnyH P md ops Q S fuel (listed.setIfInBounds i true) a' w)
  (hi:ops[i]?=some oi:=by (simp only [List.getElem?_toArray,List.getElem?_cons_succ,List.getElem?_cons_zero]; exact rfl))
  (hs:Region.noSelect ops=true:=by as_aux_lemma => kernel_rfl) (hf:Region.free md ops listed i=true:=by as_aux_lemma => kernel_rfl) (hr:(Region.ready md ops listed).contains i=true:=by as_aux_lemma => kernel_rfl)
  (hy:Region.wanted oi (yielded ops a.tmps)=true:=by rfl)
  (hv:∀ w',S w'→(execOp a.eval oi).run P w'=.ok (.value v) w':=by (intro w' hSw; (try dsimp only at hSw); go_simp; (try with_reducible rfl)))
  (ha:a.put oi.dst v=a':=by ((try simp only [Act.put,List.setIfInBounds_toArray,List.set_cons_zero,List.set_cons_succ]); exact rfl))
  (hQ:∀ c a w,Q (.panic c) (a.put oi.dst v) w→Q (.panic c) a w:=by exact fun _ _ _ h => h) (hS:S w:=by assumption):wpAnyH P md ops Q S (fuel+1) listed a w:=by
 subst ha
 exact wpAnyH_take hi hs hf hr hQ (Or.inl ⟨hy,hv⟩) hS h

end

theorem heldB_at {bs:List (Nat × List Value)} {b:Nat} {vs:List Value} (hm:(b,vs) ∈ bs) (i:Nat) (v:Value) (hi:vs[i]?=some v) (X:World) (h:heldB X bs):X.cell? ⟨b,i,none⟩=some v:=heldB_get h hm hi

theorem ckZ {w:World} {b:Nat} {l:List Value} {T:TypeId} (h:w.heap[b]?=some (.cells l.toArray T (0,0))) (i:Nat) (v:Value) (hi:l[i]?=some v):w.cell? ⟨b,i,none⟩=some v:=by
 rw [cell_of_row w b i _ _ _ h]
 simpa using hi

theorem stK {w:World} {k:Nat} {o:Obj} (h:w.heap[k]?=some o) {a:Addr} {u:Value} (hn:¬ k=a.block):(w.setCell a u).heap[k]?=some o:=(Below.heap_setCell _ _ _ k hn).trans h
theorem stS {w:World} {B:Nat} {old:List Value} {T:TypeId} (h:w.heap[B]?=some (.cells old.toArray T (0,0))) (i:Nat) (v:Value) (new:List Value) (hn:old.set i v=new):(w.setCell ⟨B,i,none⟩ v).heap[B]?=some (.cells new.toArray T (0,0)):=by
 have:=heap_setCell_same w B i _ _ v h
 rw [this,← hn]
 simp

theorem ent1 (w:World) (o0:Obj):Hid ((w.alloc o0).heap[w.heap.size]?=some o0)∧Hid (Below w.heap.size w (w.alloc o0)):=⟨newQ w o0,bl_newZ w o0⟩
theorem ent2 (w:World) (o0 o1:Obj):Hid (((w.alloc o0).alloc o1).heap[w.heap.size]?=some o0)∧Hid (((w.alloc o0).alloc o1).heap[w.heap.size+1]?=some o1)∧Hid (Below w.heap.size w ((w.alloc o0).alloc o1)):=by
 have h:=newQ (w.alloc o0) o1
 rw [World.size_alloc] at h
 exact⟨upQ (newQ w o0) (bl_newZ _ o1),h,below2Z (bl_newZ w o0) (bl_newZ _ o1)⟩
theorem ent3 (w:World) (o0 o1 o2:Obj):Hid ((((w.alloc o0).alloc o1).alloc o2).heap[w.heap.size]?=some o0)∧Hid ((((w.alloc o0).alloc o1).alloc o2).heap[w.heap.size+1]?=some o1)∧Hid ((((w.alloc o0).alloc o1).alloc o2).heap[w.heap.size+1+1]?=some o2)∧Hid (Below w.heap.size w (((w.alloc o0).alloc o1).alloc o2)):=by
 obtain⟨h0,h1,h2⟩:=ent2 w o0 o1
 have h:=newQ ((w.alloc o0).alloc o1) o2
 rw [World.size_alloc,World.size_alloc] at h
 exact⟨upQ h0 (bl_newZ _ o2),upQ h1 (bl_newZ _ o2),h,below2Z h2 (bl_newZ _ o2)⟩
theorem ent4 (w:World) (o0 o1 o2 o3:Obj):Hid (((((w.alloc o0).alloc o1).alloc o2).alloc o3).heap[w.heap.size]?=some o0)∧Hid (((((w.alloc o0).alloc o1).alloc o2).alloc o3).heap[w.heap.size+1]?=some o1)∧Hid (((((w.alloc o0).alloc o1).alloc o2).alloc o3).heap[w.heap.size+1+1]?=some o2)∧Hid (((((w.alloc o0).alloc o1).alloc o2).alloc o3).heap[w.heap.size+1+1+1]?=some o3)∧Hid (Below w.heap.size w ((((w.alloc o0).alloc o1).alloc o2).alloc o3)):=by
 obtain⟨h0,h1,h2,h3⟩:=ent3 w o0 o1 o2
 have h:=newQ (((w.alloc o0).alloc o1).alloc o2) o3
 rw [World.size_alloc,World.size_alloc,World.size_alloc] at h
 exact⟨upQ h0 (bl_newZ _ o3),upQ h1 (bl_newZ _ o3),upQ h2 (bl_newZ _ o3),h,below2Z h3 (bl_newZ _ o3)⟩
end
section
open Go.RowKit Go.ChangeMaps Go.MapKept

def fnVal:Option (Int × Nat)→Value
 | some x => .func (.func x.2) #[] #[]
 | none => .nilFunc

def fnData:Option (Int × Nat)→DataW Unit
 | some x => .lit (.int .i64 x.2)
 | none => .lit (.bool false)

def fnElem:Value→Option (DataW Unit × List MemPlace)
 | .func (.func f) ⟨[]⟩ ⟨[]⟩ => some (.lit (.int .i64 f),[])
 | .nilFunc => some (.lit (.bool false),[])
 | _ => none

theorem fnElem_inv {v:Value} {z:DataW Unit × List MemPlace} (h:fnElem v=some z) (o:Option (Int × Nat)) (hz:z.1=fnData o):v=fnVal o:=by
 unfold fnElem at h
 split at h
 ·rename_i f
  obtain rfl:=(Option.some.inj h).symm
  cases o with
  | none => simp [fnData] at hz
  | some x =>
   obtain⟨k,g⟩:=x
   simp [fnData] at hz
   obtain rfl:=Int.ofNat.inj hz
   rfl
 ·obtain rfl:=(Option.some.inj h).symm
  cases o with
  | none => rfl
  | some x => simp [fnData] at hz
 ·cases h

def FnMap (w:World) (B:Nat) (l:List (Int × Nat)):Prop :=
 ∃ D:DataW Unit,w.ownsMap Tryz.prog 3 fnElem B l.length D ∧
  ∀ k:Int,Maps.has D (.int .i64 k)=l.any (fun x => x.1 == k)∧D.atKey (.int .i64 k) (.lit (.bool false))=fnData (l.find? fun x => x.1 == k)

theorem fnMap_made (w:World):FnMap (w.alloc (.map #[] 0)) w.heap.size [] :=
 ⟨.map [],World.ownsMap_made w _ _ _,fun _ => ⟨rfl,rfl⟩⟩

theorem FnMap.lt {w:World} {B:Nat} {l:List (Int × Nat)} (h:FnMap w B l):B < w.heap.size:=by
 obtain⟨_,h,_⟩:=h
 exact h.lt

theorem FnMap.later {w w':World} {B:Nat} {l:List (Int × Nat)} (h:FnMap w B l) (hb:Below w.heap.size w w'):FnMap w' B l:=by
 have hlt:=h.lt
 obtain⟨D,⟨es,clock,h2,h3,h4,h5⟩,h6⟩:=h
 exact⟨D,⟨es,clock,(hb.block B hlt).trans h2,h3,h4,h5⟩,h6⟩
end
section
open Go.RowKit Go.ChangeMaps Go.MapKept

theorem zeroFnC (w:World):(zeroValue 83).run Tryz.prog w=.ok .nilFunc w:=by kernel_rfl

theorem FnMap.lookC {w:World} {B:Nat} {l:List (Int × Nat)} (h:FnMap w B l) (k:Int) (hk:(Lit.int .i64 k).wf=true) :
  (Instr.lookup 130 (.map (some B)) (.int .i64 k) true).run Tryz.prog w=.ok (.tuple #[fnVal (l.find? fun x => x.1 == k),.bool (l.any fun x => x.1 == k)]) w:=by
 obtain⟨D,h2,h3⟩:=h
 obtain⟨v,ps,hrun,hv⟩:=h2.look_ok (Maps.int_keyed Tryz.underlying3) Tryz.underlying130 (zeroFnC w) (show fnElem .nilFunc=some (.lit (.bool false),[]) from rfl) (Maps.keyOf_int_mk Tryz.underlying3 hk)
 rw [(h3 k).2] at hv
 rw [fnElem_inv hv _ rfl,(h3 k).1] at hrun
 exact hrun

theorem wpList_fnC {w:World} {ops:Array Oper} {rest:List Oper} {o:Oper} {a:Act} {Q:Exit→Act→World→Prop}
  (hg:o.guard=none) (m x v:Operand) (hop:o.op=Op.insert 130 m x v) (B:Nat) (l:List (Int × Nat)) (hm:a.eval m=.map (some B)) (hown:FnMap w B l) (hl:l.length≤100)
  (k:Int) (hk:(Lit.int .i64 k).wf=true) (f:Nat) (hx:a.eval x=.int .i64 k) (hv:a.eval v=.func (.func f) #[] #[])
  (hK:∀ w',FnMap w' B ((k,f) :: l)→w.grownBy w' (some B)→wpList Tryz.prog ops Q rest (a.put o.dst undef) w') :
  wpList Tryz.prog ops Q (o :: rest) a w:=by
 obtain⟨D,h2,h3⟩:=hown
 refine wpList_plain hg fun K' hK' => ?_
 obtain⟨w',hrun,h6,h7⟩:=h2.update (Maps.int_keyed Tryz.underlying3) Tryz.underlying130 (by unfold maxLen; omega) (Maps.keyOf_int_mk Tryz.underlying3 hk) (show fnElem (.func (.func f) #[] #[])=some (.lit (.int .i64 f),[]) from rfl)
 unfold Oper.wp
 simp [execOp,hop,hm,hx,hv,hrun,Result.andThen]
 refine hK' _ _ ?_
 have hT:=h2.tidy (Maps.int_keyed Tryz.underlying3)
 refine hK w' ⟨_,h6,fun y => ?_⟩ h7
 by_cases e:y=k
 ·subst e
  rw [Maps.has_put_same hT.isMap (show WideAt.IsKeyLit (.int .i64 y) from True.intro),Maps.atKey_put_same hT.isMap (show WideAt.IsKeyLit (.int .i64 y) from True.intro)]
  simp [fnData]
 ·have hne:(Lit.int .i64 y) ≠ .int .i64 k:=fun h => e (by injection h)
  rw [Maps.has_put_other hne,Maps.atKey_put_other hne,(h3 y).1,(h3 y).2]
  have e':(k == y)=false:=by simpa using fun h => e h.symm
  simp [e']

def kindFnsC:List (Int × Nat):=[(3,127),(2,126),(1,125)]

theorem kindsC_any (w:World):Calls Tryz.prog 97 #[] w fun e w' => e=.returned (.map (some w.heap.size))∧FnMap w' w.heap.size kindFnsC∧Below w.heap.size w w':=by
 have hmm:=fun w => run_makeMap (P:=Tryz.prog) 130 w
 have H0:=hZq (fnMap_made w)
 have B0:Hid (Below w.heap.size w (w.alloc (.map #[] 0))):=hZq ((Below.refl _ _).alloc (Nat.le_refl _) _)
 go_enter Tryz.func97,Tryz.ntmps97
 go_wp2_with (first
  | (refine wpList_fnC rfl _ _ _ rfl w.heap.size [] rfl H0.out (by decide) 1 (by decide) 125 rfl rfl ?_; intro w1 h g; (have H1:=hZq h); (have B1:Hid (Below w.heap.size w w1):=hZq (B0.out.grown g B0.out.size (by intro k hk; injection hk with hk; omega))); clear h g H0)
  | (refine wpList_fnC rfl _ _ _ rfl w.heap.size [(1,125)] rfl H1.out (by decide) 2 (by decide) 126 rfl rfl ?_; intro w2 h g; (have H2:=hZq h); (have B2:Hid (Below w.heap.size w w2):=hZq (B1.out.grown g B1.out.size (by intro k hk; injection hk with hk; omega))); clear h g H1)
  | (refine wpList_fnC rfl _ _ _ rfl w.heap.size [(2,126),(1,125)] rfl H2.out (by decide) 3 (by decide) 127 rfl rfl ?_; intro w3 h g; (have H3:=hZq h); (have B3:Hid (Below w.heap.size w w3):=hZq (B2.out.grown g B2.out.size (by intro k hk; injection hk with hk; omega))); clear h g H2))
 go_ret
 exact⟨rfl,H3.out,B3.out⟩
end
section

def frReadAt (l : List UInt8) (k n a : Nat) : Frm :=
  if k = 1 then
    (if l.length ≤ a then Frm.zero
     else if (idTake l (a + 1)).2.2 ≠ 0 then Frm.zero
     else if l.getD a 0 = 1 then
       (if (vaTake l (idTake l (a + 1)).2.1).2.2 ≠ 0 then Frm.zero else ⟨1, n, true, (idTake l (a + 1)).1, (vaTake l (idTake l (a + 1)).2.1).1, 0, []⟩)
     else ⟨1, n, false, (idTake l (a + 1)).1, Val.zero, 0, []⟩)
  else if k = 2 then ⟨2, n, false, [], Val.zero, sum8 ((l.drop a).take 8), []⟩
  else if k = 3 then (if (diTake l a).2.2 ≠ 0 then Frm.zero else ⟨3, n, false, [], Val.zero, 0, (diTake l a).1⟩)
  else ⟨k, n, false, [], Val.zero, 0, []⟩

def frRead (l:List UInt8):Frm :=
 match l with
 | [] => Frm.zero
 | x :: r => if (vget (x :: r) 1).2.2 ≠ 0∨1099511627776 < (vget (x :: r) 1).1 then Frm.zero else frReadAt (x :: r) x.toNat (vget (x :: r) 1).1 (vget (x :: r) 1).2.1

theorem frReadAt_body {f:Frm} (h:FrOk f) (hs:f.sum < 18446744073709551616) (a:List UInt8):frReadAt (a ++ frBody f) f.k.toNat f.s.toNat a.length=f:=by
 obtain⟨k,s,on,c,v,sum,t⟩:=f
 obtain⟨h1,h2,h3,h4,h5⟩:=h
 simp only at h1 h2 h3 h4 hs
 obtain⟨s,rfl⟩:=Int.eq_ofNat_of_zero_le h3
 have hk:k=1∨k=2∨k=3∨k=4:=by omega
 unfold frRest at h5
 simp only at h5
 rcases hk with rfl | rfl | rfl | rfl
 ·simp only [if_true,Bool.and_eq_true,decide_eq_true_eq,List.length_eq_zero_iff] at h5
  obtain⟨rfl,rfl,hc,hv⟩:=h5
  have hp:(idPut c).1=vput c.length ++ c:=by unfold idPut; rw [if_pos hc]
  cases on with
  | false =>
   simp only [Bool.false_eq_true,if_false] at hv
   obtain rfl:=vSame_iff.1 hv
   have e:=idTake_at hc (a ++ [0]) []
   have e':idTake (a ++ 0 :: (vput c.length ++ c)) ((a.length:Int)+1)=(c,(a ++ [0]).length+(vput c.length ++ c).length,0):=by
    rw [← e]
    congr 1
    ·simp
    ·simp
   unfold frReadAt frBody
   simp [hp,e']
   omega
  | true =>
   simp only [if_true] at hv
   have e:=idTake_at hc (a ++ [1]) (vaBytes v)
   have e':idTake (a ++ 1 :: (vput c.length ++ (c ++ vaBytes v))) ((a.length:Int)+1)=(c,(a ++ [1]).length+(vput c.length ++ c).length,0):=by
    rw [← e]
    congr 1
    ·simp
    ·simp
   have g:=vaTake_put hv (a ++ 1 :: (vput c.length ++ c)) []
   have g':vaTake (a ++ 1 :: (vput c.length ++ (c ++ vaBytes v))) (((a ++ [1]).length+(vput c.length ++ c).length:Nat):Int)=(v,(a ++ 1 :: (vput c.length ++ c)).length+(vaBytes v).length,0):=by
    rw [← g]
    congr 1
    ·simp
    ·simp only [List.length_append,List.length_cons,List.length_nil]
     omega
   unfold frReadAt frBody
   simp only [if_true,hp,List.append_assoc,e',g']
   simp
   omega
 ·simp only [show ¬ (2:Int)=1 by omega,if_false,if_true,Bool.and_eq_true,decide_eq_true_eq,List.length_eq_zero_iff,Bool.not_eq_true',beq_iff_eq] at h5
  obtain⟨⟨rfl,rfl,hv⟩,rfl⟩:=h5
  obtain rfl:=vSame_iff.1 hv
  unfold frReadAt frBody
  simp [be8]
  exact sum8_be8 sum hs
 ·simp only [show ¬ (3:Int)=1 by omega,show ¬ (3:Int)=2 by omega,if_false,if_true,Bool.and_eq_true,decide_eq_true_eq,Bool.not_eq_true',beq_iff_eq] at h5
  obtain⟨⟨rfl,rfl,hv⟩,rfl,ht⟩:=h5
  obtain rfl:=vSame_iff.1 hv
  have e:=diTake_put ht a []
  rw [List.append_nil] at e
  have hp:(diPut t).1=diBytes t:=by unfold diPut; rw [if_pos ht]
  unfold frReadAt frBody
  simp [hp,e]
 ·simp only [show ¬ (4:Int)=1 by omega,show ¬ (4:Int)=2 by omega,show ¬ (4:Int)=3 by omega,if_false,Bool.and_eq_true,decide_eq_true_eq,List.length_eq_zero_iff,Bool.not_eq_true',beq_iff_eq] at h5
  obtain⟨⟨rfl,rfl,hv⟩,rfl,rfl⟩:=h5
  obtain rfl:=vSame_iff.1 hv
  unfold frReadAt frBody
  simp

theorem frRead_plain {f:Frm} (h:frMay f=true) (hs:f.sum < 18446744073709551616):frRead (frPlain f)=f:=by
 have ho:=frMay_iff.1 h
 have hk1:=ho.k1
 have hk4:=ho.k4
 have hs1:=ho.s1
 have hb:=frReadAt_body ho hs (u8of f.k.toNat :: vput f.s.toNat)
 have hx:(u8of f.k.toNat).toNat=f.k.toNat:=u8of_toNat (by omega)
 have hg:=vget_vput f.s.toNat (by omega) [u8of f.k.toNat] (frBody f)
 simp only [List.length_singleton,List.cons_append,List.nil_append] at hg
 have hg':vget (u8of f.k.toNat :: (vput f.s.toNat ++ frBody f)) 1=(f.s.toNat,1+(vput f.s.toNat).length,0):=hg
 unfold frPlain frRead
 simp only [hg',hx]
 rw [if_neg (by omega)]
 simp only [List.length_cons,List.cons_append] at hb
 rw [Nat.add_comm 1]
 exact hb

def frDec (s:List UInt8):Frm × Nat :=
 if (copen s).2 ≠ 0 then (Frm.zero,(copen s).2)
 else match frTake (copen s).1 with
  | some f => if frMay f=true∧frPlain f=(copen s).1 then (f,0) else (Frm.zero,3)
  | none => (Frm.zero,3)

def frDoc (s:List UInt8):Frm × Nat :=
 if (copen s).2 ≠ 0 then (Frm.zero,(copen s).2)
 else if frMay (frRead (copen s).1)=true∧cseal (frPlain (frRead (copen s).1))=s then (frRead (copen s).1,0) else (Frm.zero,3)

theorem frDec_plain {s:List UInt8} {f:Frm} (hf:frMay f=true) (hs:f.sum < 18446744073709551616) (h:cseal (frPlain f)=s):frDec s=(f,0)∧frDoc s=(f,0):=by
 subst h
 unfold frDec frDoc
 rw [copen_seal]
 simp only [frTake_plain hf hs,frRead_plain hf hs,hf]
 simp

theorem sum8_lt:∀ (l:List UInt8) (a:Nat),l.foldl (fun a b => a * 256+b.toNat) a < (a+1) * 256 ^ l.length
 | [],a => by simp
 | b :: r,a => by
  have h:=sum8_lt r (a * 256+b.toNat)
  have hb:b.toNat < 256:=b.toNat_lt
  rw [List.foldl_cons,List.length_cons,Nat.pow_succ]
  refine Nat.lt_of_lt_of_le h ?_
  rw [Nat.mul_comm (256 ^ r.length) 256,← Nat.mul_assoc]
  exact Nat.mul_le_mul_right _ (by omega)

theorem sum8_take (l:List UInt8):sum8 (l.take 8) < 18446744073709551616:=by
 have h:=sum8_lt (l.take 8) 0
 have h2:256 ^ (l.take 8).length≤256 ^ 8:=Nat.pow_le_pow_right (by omega) (by rw [List.length_take]; omega)
 unfold sum8
 omega

theorem frTake_sum {l:List UInt8} {f:Frm} (h:frTake l=some f):f.sum < 18446744073709551616:=by
 unfold frTake at h
 split at h
 ·cases h
 ·split at h
  ·cases h
  ·split at h
   ·cases h
   ·unfold frTakeBody at h
    repeat' split at h
    all_goals (first | (cases h; done) | (obtain rfl:=Option.some.inj h; first | exact sum8_take _ | (simp only; omega)))

theorem frRead_sum (l:List UInt8):(frRead l).sum < 18446744073709551616:=by
 unfold frRead
 split
 ·simp [Frm.zero]
 ·split
  ·simp [Frm.zero]
  ·unfold frReadAt
   repeat' split
   all_goals (first | exact sum8_take _ | simp [Frm.zero])

theorem frDec_doc (s:List UInt8):frDec s=frDoc s:=by
 by_cases he:(copen s).2=0
 ·have hc:copen s=((copen s).1,0):=by rw [← he]
  have hs:=copen_ok hc
  by_cases hd:∃ f,frTake (copen s).1=some f∧frMay f=true∧frPlain f=(copen s).1
  ·obtain⟨f,h1,h2,h3⟩:=hd
   have:=frDec_plain h2 (frTake_sum h1) (s:=s) (by rw [h3]; exact hs)
   rw [this.1,this.2]
  ·have e1:frDec s=(Frm.zero,3):=by
    unfold frDec
    rw [if_neg (by simp [he])]
    split
    ·rename_i f hf
     rw [if_neg (fun h => hd ⟨f,hf,h.1,h.2⟩)]
    ·rfl
   by_cases h:frMay (frRead (copen s).1)=true∧cseal (frPlain (frRead (copen s).1))=s
   ·have:=(frDec_plain h.1 (frRead_sum _) h.2).1
    rw [e1] at this
    simp at this
   ·rw [e1]
    unfold frDoc
    rw [if_neg (by simp [he]),if_neg h]
 ·unfold frDec frDoc
  rw [if_pos he,if_pos he]
end
section

theorem idPut_lenS (c:List UInt8):(idPut c).1.length≤26:=by
 unfold idPut
 by_cases h:idIs c=true
 ·rw [if_pos h]
  have:=(idIs_parts h).2.1
  have:=vput_len_le c.length
  simp only [List.length_append]
  omega
 ·rw [if_neg h]
  simp

theorem frBody_len {f:Frm} (h:FrOk f):(frBody f).length≤1985:=by
 have hr:=h.rest
 unfold frRest at hr
 unfold frBody
 by_cases h1:f.k=1
 ·rw [if_pos h1] at hr ⊢
  simp only [Bool.and_eq_true] at hr
  have hi:=idPut_lenS f.c
  cases ho:f.on with
  | false => simp; omega
  | true =>
   rw [ho] at hr
   simp only [if_true] at hr
   have:=vaBytes_len hr.2.2.2
   have:=(vaMay_parts hr.2.2.2).2.2.2.2.2.2
   have:=vput_len_le f.v.si.toNat
   simp
   omega
 ·rw [if_neg h1]
  by_cases h2:f.k=2
  ·rw [if_pos h2]; simp [be8]
  ·rw [if_neg h2]
   by_cases h3:f.k=3
   ·rw [if_pos h3]; exact diPut_len f.t
   ·rw [if_neg h3]; simp

theorem frPlain_len {f:Frm} (h:frMay f=true):2≤(frPlain f).length∧(frPlain f).length≤1996:=by
 have hb:=frBody_len (frMay_iff.1 h)
 have h1:=vput_len_le f.s.toNat
 have h2:=vput_len_pos f.s.toNat
 unfold frPlain
 simp only [List.length_cons,List.length_append]
 omega
end
section

theorem enc_mayP {f:Frm} (h:frMay f=true):frEnc f=(cseal (frPlain f),0):=by unfold frEnc; rw [if_pos h]
theorem seal_lenP (l:List UInt8):(cseal l).length=l.length+4:=by simp [cseal,low4]

theorem enc_lenP {f:Frm} (h:frMay f=true):6≤(cseal (frPlain f)).length∧(cseal (frPlain f)).length≤2000:=by
 have:=frPlain_len h
 rw [seal_lenP]
 omega
end
section

structure Cli where
 t:List Row
 n:Int
 o:Bool

def clMay (c:Cli):Bool:=(decide (0≤c.n) && decide (c.n≤1099511627777)) && diMay c.t

def clDo (c:Cli) (f:Frm):Cli :=
 if f.k=3 then ⟨f.t,f.s+1,false⟩
 else if (c.o || decide (c.n < f.s))=true then ⟨c.t,f.s+1,true⟩
 else if f.k=2 then ⟨c.t,f.s+1,!decide (diSum c.t=f.sum)⟩
 else if diMay (diSet c.t ⟨f.c,f.on,f.v⟩)=true then ⟨diSet c.t ⟨f.c,f.on,f.v⟩,f.s+1,false⟩
 else ⟨c.t,f.s+1,true⟩

def clTakes (c:Cli) (f:Frm):Bool:=(frMay f && !decide (f.k=4)) && (clMay c && decide (c.n≤f.s))

def clFeed (c:Cli) (f:Frm):Cli:=if clTakes c f=true then clDo c f else c

def clSame (a b:Cli):Bool:=decide (a.n=b.n) && ((a.o == b.o) && tSame a.t b.t)

def clReq (c:Cli):Frm:=⟨4,if c.n≤1099511627776 then c.n else 1099511627776,false,[],Val.zero,0,[]⟩

def clAsk (c:Cli):List UInt8 × Bool:=if (c.o && clMay c)=true then (cseal (frPlain (clReq c)),true) else ([],false)

def clRead (c:Cli) (s:List UInt8):Cli × Nat:=if (frDec s).2=0 then (clFeed c (frDec s).1,0) else (c,(frDec s).2)

theorem clMay_parts {c:Cli} (h:clMay c=true):0≤c.n∧c.n≤1099511627777∧diMay c.t=true:=by
 unfold clMay at h
 simp only [Bool.and_eq_true,decide_eq_true_eq] at h
 exact⟨h.1.1,h.1.2,h.2⟩

theorem clMay_of {c:Cli} (h0:0≤c.n) (h1:c.n≤1099511627777) (h2:diMay c.t=true):clMay c=true:=by
 unfold clMay
 simp [h0,h1,h2]

theorem clReq_may {c:Cli} (h:clMay c=true):frMay (clReq c)=true:=by
 obtain⟨h0,h1,_⟩:=clMay_parts h
 refine frMay_iff.2 ⟨(by show (1:Int)≤4; decide),(by show (4:Int)≤4; decide),?_,?_,?_⟩
 ·show 0≤(if c.n≤1099511627776 then c.n else 1099511627776)
  split <;> omega
 ·show (if c.n≤1099511627776 then c.n else 1099511627776)≤1099511627776
  split <;> omega
 ·unfold frRest clReq
  simp [vSame_self]

theorem clTakes_parts {c:Cli} {f:Frm} (h:clTakes c f=true):frMay f=true∧¬ f.k=4∧clMay c=true∧c.n≤f.s:=by
 unfold clTakes at h
 simp only [Bool.and_eq_true,decide_eq_true_eq,Bool.not_eq_true',decide_eq_false_iff_not] at h
 exact⟨h.1.1,h.1.2,h.2.1,h.2.2⟩

theorem clTakes_of {c:Cli} {f:Frm} (h1:frMay f=true) (h2:¬ f.k=4) (h3:clMay c=true) (h4:c.n≤f.s):clTakes c f=true:=by
 unfold clTakes
 simp [h1,h2,h3,h4]

theorem clDo_n (c:Cli) (f:Frm):(clDo c f).n=f.s+1:=by
 unfold clDo
 split
 ·rfl
 ·split
  ·rfl
  ·split
   ·rfl
   ·split <;> rfl

theorem frTable_may {f:Frm} (h:frMay f=true) (hk:f.k=3):diMay f.t=true:=by
 have:=(frMay_iff.1 h).rest
 unfold frRest at this
 rw [if_neg (by omega),if_neg (by omega),if_pos hk] at this
 simp only [Bool.and_eq_true] at this
 exact this.2.2

theorem clDo_may {c:Cli} {f:Frm} (hf:frMay f=true) (hc:clMay c=true):clMay (clDo c f)=true:=by
 have ho:=frMay_iff.1 hf
 obtain⟨_,_,ht⟩:=clMay_parts hc
 have hn:=clDo_n c f
 refine clMay_of (by have:=ho.s0; omega) (by have:=ho.s1; omega) ?_
 unfold clDo
 split
 ·rename_i h; exact frTable_may hf h
 ·split
  ·exact ht
  ·split
   ·exact ht
   ·split
    ·assumption
    ·exact ht

theorem clFeed_may {c:Cli} (f:Frm) (hc:clMay c=true):clMay (clFeed c f)=true:=by
 unfold clFeed
 split
 ·rename_i h; exact clDo_may (clTakes_parts h).1 hc
 ·exact hc

def clPast (n:Int) (f:Frm):Prop:=frMay f=true→¬ f.k=4→f.s < n

def Cli.new:Cli:=⟨[],0,false⟩

def GapsAt (c:Cli) (out:Bool) (next:Int) (t:List Row):Prop:=clMay c=true∧c.o=out∧c.n=next∧diMay t=true∧(out=false→c.t=t)
end
end Go.Proofs.YtmpigdokghngiaaGreat
