/-
 TEXTS OF THE PROOF, one behind the other: DigWithout, DigIns, DigInsR, DigSet, QueRow, QueOne, Rgm.
-/
import Derived.Test.YtphfinlfabklmaaGreatB36
import Derived.Laws.Externs
import Derived.Test.YtphfinlfabklmaaGreatB30
import Derived.Test.YtphfinlfabklmaaGreatB01
import Derived.Test.YtphfinlfabklmaaGreatB10
import Derived.Lib.Hide
import Derived.BigRegion
import Derived.Maps.OwnSet
import Derived.Test.YtphfinlfabklmaaGreatB02
import Derived.Test.YtphfinlfabklmaaGreatB26
import Derived.Test.YtphfinlfabklmaaGreatB25
import Derived.Lib.QuietBelow

section

namespace Go.Proofs.YtphfinlfabklmaaGreat
open Go.RowKit

theorem Tab.src {w:World} {ad:Addr} {n cap:Nat} {t:List Row} (h:Tab w (.slice (some ad) n cap) t):SrcR w ad t:=by
 obtain⟨a',cap',e,_,_,_,h⟩:=h
 simp only [Value.slice.injEq] at e
 intro j u hu
 have hj:=(List.getElem?_eq_some_iff.1 hu).1
 rw [cellsOf_len] at hj
 rcases h with h | ⟨b,off,e',_,hc⟩
 ·rw [h] at hj; simp at hj
 ·have e2:=e.1.trans e'
  injection e2 with e2
  subst e2
  have hd:j=j / 5 * 5+j % 5:=by omega
  rw [hd,cellsOf_at t (j / 5) (j % 5) (by omega) (by omega)] at hu
  have:=cells5_get (hc (j / 5) (by omega)) (j % 5) u hu
  rw [Addr.add_lit,hd,← Nat.add_assoc]
  exact this

end Go.Proofs.YtphfinlfabklmaaGreat

end

section

namespace Go.Proofs.YtphfinlfabklmaaGreat
open Go.RowKit

def Lone (w:World) (B:Nat) (r:Row):Prop:=w.heap[B]?=some (.cells #[.string ⟨r.c.toArray⟩,.int .i64 r.v.sh,.int .i64 r.v.pr,.int .i64 r.v.si,.string ⟨r.v.st.toArray⟩] 45 (0,0))

theorem Lone.later {w w':World} {B:Nat} {r:Row} (h:Lone w B r) (hb:Below w.heap.size w w'):Lone w' B r :=
 (hb.block B (Array.getElem?_eq_some_iff.1 h).1).trans h

theorem Lone.lt {w:World} {B:Nat} {r:Row} (h:Lone w B r):B < w.heap.size:=(Array.getElem?_eq_some_iff.1 h).1

theorem Lone.src {w:World} {B:Nat} {r:Row} (h:Lone w B r):SrcR w ⟨B,0,none⟩ [r]:=by
 intro j u hu
 rw [cellsOf_one] at hu
 rw [Addr.add_lit,Nat.zero_add,cell_of_row w B j _ _ (0,0) h,← hu]
 simp [rowVals]

theorem Lone.free {w:World} {B:Nat} {r:Row} (h:Lone w B r) (j:Nat):w.frozen? ⟨B,j,none⟩=false:=frozen_of_row w B j _ _ h

theorem Lone.shape {w:World} {B:Nat} {r:Row} (h:Lone w B r):w.shape? B=some (45,5):=by
 have h':=h
 unfold Lone at h'
 simp only [World.shape?,h']
 rfl

def put1 (t:List Row) (i:Nat) (r:Row):List Row:=t.take i ++ ([r] ++ t.drop i)

end Go.Proofs.YtphfinlfabklmaaGreat

end

section

namespace Go.Proofs.YtphfinlfabklmaaGreat
open Go.RowKit

def OwnC5 (w:World) (base g n cap:Nat) (xs:List Value):Prop:=w.ownsRow base 45 5 (.slice (some ⟨g,0,none⟩) n cap) n xs

theorem OwnC5.head {w:World} {base g n cap:Nat} {xs:List Value} (h:OwnC5 w base g n cap xs):base≤g∧xs.length=n * 5∧∃ cur:Array Value,w.heap[g]?=some (.cells cur 45 (0,0))∧cur.size=cap * 5:=by
 rcases h with ⟨h0,⟨h',_⟩ | ⟨g',cap',cur,h',hb,hg,hnc,hcm,hcs,_⟩⟩
 ·simp at h'
 ·simp only [Value.slice.injEq,Option.some.injEq,Addr.mk.injEq,and_true,true_and] at h'
  obtain⟨rfl,rfl⟩:=h'
  exact⟨hb,h0,cur,hg,hcs⟩

theorem OwnC5.someAt {w:World} {base g n cap:Nat} {xs:List Value} (h:OwnC5 w base g n cap xs) (j:Nat) (hj:j < n * 5):(w.cell? ⟨g,j,none⟩).isSome=true:=by
 rw [World.ownsRow.cellAt h j hj,List.getElem?_eq_getElem (by rw [h.head.2.1]; exact hj)]
 rfl

theorem OwnC5.drew {w:World} {base g n cap:Nat} {xs:List Value} (h:OwnC5 w base g n cap xs):OwnC5 w.drew base g n cap xs:=World.ownsRow.drew h

theorem OwnC5.rows {w:World} {base g cap n:Nat} {t:List Row} (h:OwnC5 w base g n cap (cellsOf t)) (hn:n=t.length):OwnR w base (.slice (some ⟨g,0,none⟩) n cap) t:=by
 subst hn
 exact h

end Go.Proofs.YtphfinlfabklmaaGreat

end

section

namespace Go.Proofs.YtphfinlfabklmaaGreat
open Go.RowKit

theorem OwnR.drew {w:World} {base:Nat} {v:Value} {t:List Row} (h:OwnR w base v t):OwnR w.drew base v t:=World.ownsRow.drew h

def chgAgg (c:Chg):Value:=.agg #[.string ⟨c.c.toArray⟩,.bool c.on,.int .i64 c.v.sh,.int .i64 c.v.pr,.int .i64 c.v.si,.string ⟨c.v.st.toArray⟩]

end Go.Proofs.YtphfinlfabklmaaGreat

end

section

namespace Go.Proofs.YtphfinlfabklmaaGreat
open Go.RowKit

theorem chgOK:RowOK Tryz.prog chgVals 6 Chg.zero 57 40 (.agg #[.string ⟨#[]⟩,.bool false,.int .i64 0,.int .i64 0,.int .i64 0,.string ⟨#[]⟩]) 64 where
 len _:=rfl
 one a u hu:=by
  simp only [chgVals,List.mem_cons,List.not_mem_nil,or_false] at hu
  rcases hu with rfl | rfl | rfl | rfl | rfl | rfl <;> rfl
 pos:=by decide
 small:=by decide
 under:=Tryz.underlying40
 info:=Tryz.infoChange
 zvals:=rfl
 fits:=by decide

theorem Chgs.rdS {w:World} {v:Value} {t:List Chg} (h:Chgs w v t):RdS chgVals 6 Chg.zero w v t:=by
 obtain⟨a,cap,h1,h2,h3,h4,h5⟩:=h
 refine ⟨a,cap,h1,h2,h3,h4,?_⟩
 rcases h5 with h5 | ⟨b,off,e,hlt,hc⟩
 ·exact .inl h5
 ·refine .inr ⟨b,off,e,hlt,fun i hi => ?_⟩
  obtain⟨c0,c1,c2,c3,c4,c5⟩:=hc i hi
  intro j u hu
  unfold chgVals at hu
  match j,hu with
  | 0,hu => simp only [List.getElem?_cons_zero,Option.some.injEq] at hu; subst hu; exact c0
  | 1,hu => simp only [List.getElem?_cons_succ,List.getElem?_cons_zero,Option.some.injEq] at hu; subst hu; exact c1
  | 2,hu => simp only [List.getElem?_cons_succ,List.getElem?_cons_zero,Option.some.injEq] at hu; subst hu; exact c2
  | 3,hu => simp only [List.getElem?_cons_succ,List.getElem?_cons_zero,Option.some.injEq] at hu; subst hu; exact c3
  | 4,hu => simp only [List.getElem?_cons_succ,List.getElem?_cons_zero,Option.some.injEq] at hu; subst hu; exact c4
  | 5,hu => simp only [List.getElem?_cons_succ,List.getElem?_cons_zero,Option.some.injEq] at hu; subst hu; exact c5
  | j+6,hu => simp at hu

theorem chgs_of {w:World} {v:Value} {t:List Chg} (h:RdS chgVals 6 Chg.zero w v t):Chgs w v t:=by
 obtain⟨a,cap,h1,h2,h3,h4,h5⟩:=h
 refine ⟨a,cap,h1,h2,h3,h4,?_⟩
 rcases h5 with h5 | ⟨b,off,e,hlt,hc⟩
 ·exact .inl h5
 ·exact .inr ⟨b,off,e,hlt,fun i hi => cells6_of (hc i hi)⟩

abbrev OwnQ (w:World) (base:Nat) (v:Value) (l:List Chg):Prop:=OwnS chgVals 6 57 w base v l
theorem OwnQ.chgs {w:World} {base:Nat} {v:Value} {l:List Chg} (h:OwnQ w base v l):Chgs w v l:=chgs_of (OwnS.rd chgOK h)

def ShortC (l:List Chg):Prop:=∀ c ∈ l,c.c.length≤4294967296∧c.v.st.length≤4294967296
theorem ShortC.get {l:List Chg} (h:ShortC l) {k:Nat} (hk:k < l.length):(l.getD k Chg.zero).c.length≤4294967296∧(l.getD k Chg.zero).v.st.length≤4294967296:=by
 rw [List.getD_eq_getElem?_getD,List.getElem?_eq_getElem hk]
 exact h _ (List.getElem_mem hk)

end Go.Proofs.YtphfinlfabklmaaGreat

end

section

namespace Go.Proofs.YtphfinlfabklmaaGreat
open Go.RowKit

end Go.Proofs.YtphfinlfabklmaaGreat

end

section

namespace Go.Proofs.YtphfinlfabklmaaGreat
open Go.RowKit

theorem rgM {P:Program} {f:FuncId} {args:Array Value} {v:Value} {w:World} (h:∀ w',Below w.heap.size w w'→Calls P f args w' fun e w'' => e=.returned v∧Below w'.heap.size w' w'') (d:Nat) (os:Array Obj) :
  Calls P f args (Sort.grow (redrawn w d) os) fun e w'' => e=.returned v∧∃ p:Regrown,w''=Sort.grow (redrawn w p.d) p.os:=Calls.regrown_of (h _ (below_regrown w d os))

end Go.Proofs.YtphfinlfabklmaaGreat

end
