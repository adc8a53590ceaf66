/-
 TEXTS OF THE PROOF, one behind the other: DigTakeR, DigOwn, DigTake, DigRtake, DigGet, IdRow, IdDoc, IdRput, IdRmerge, IdConcat, IdMerge, DigCts, DigMap, DigChgs, DigLay, DigDel.
-/
import Derived.Test.YtmpigdokghngiaaGreatQ02
import Derived.Test.YtmpigdokghngiaaGreatQ01
import Derived.Laws.AppendOwnNone
import Derived.Laws.OwnMore
import Derived.Test.YtmpigdokghngiaaGreatProg
import Derived.Lib.Hide
import Derived.Lib.AppendZeros
import Derived.OwnWalk
import Derived.BigQuiet
import Derived.Deep.DeepMust
import Derived.Lib.OwnBridge
import Derived.Maps.OwnSet
import Derived.Laws.IdiomCopy
import Derived.Lib.AppendZerosOnto
import Derived.Lib.Overlaps
import Derived.Deep.RegionLaw
import Derived.WalkSpells

set_option maxHeartbeats 12800000
set_option maxRecDepth 100000

namespace Go.Proofs.YtmpigdokghngiaaGreat
section
open Go.RowKit

def rowAgg (r:Row):Value:=.agg #[.string ⟨r.c.toArray⟩,.int .i64 r.v.sh,.int .i64 r.v.pr,.int .i64 r.v.si,.string ⟨r.v.st.toArray⟩]

def tripleR (r:Row × Nat × Nat):Value:=.tuple #[rowAgg r.1,.int .i64 r.2.1,.int .i64 r.2.2]

def set5D (w:World) (B:Nat) (a b c d e:Value):World :=
 ((((w.setCell ⟨B,0,none⟩ a).setCell ⟨B,1,none⟩ b).setCell ⟨B,2,none⟩ c).setCell ⟨B,3,none⟩ d).setCell ⟨B,4,none⟩ e

theorem five_set (w:World) (B:Nat) (a b c d e:Value) {a' b' c' d' e':Value} (h0:w.cell? ⟨B,0,none⟩=some a') (h1:w.cell? ⟨B,1,none⟩=some b') (h2:w.cell? ⟨B,2,none⟩=some c') (h3:w.cell? ⟨B,3,none⟩=some d') (h4:w.cell? ⟨B,4,none⟩=some e') :
  (set5D w B a b c d e).cell? ⟨B,0,none⟩=some a∧(set5D w B a b c d e).cell? ⟨B,1,none⟩=some b∧(set5D w B a b c d e).cell? ⟨B,2,none⟩=some c∧(set5D w B a b c d e).cell? ⟨B,3,none⟩=some d∧(set5D w B a b c d e).cell? ⟨B,4,none⟩=some e:=by
 unfold set5D
 have o1:((w.setCell ⟨B,0,none⟩ a)).cell? ⟨B,1,none⟩=some b':=by rw [World.cell?_setCell_other _ _ _ _ (by simp)]; exact h1
 have o2:((w.setCell ⟨B,0,none⟩ a).setCell ⟨B,1,none⟩ b).cell? ⟨B,2,none⟩=some c':=by rw [World.cell?_setCell_other _ _ _ _ (by simp),World.cell?_setCell_other _ _ _ _ (by simp)]; exact h2
 have o3:(((w.setCell ⟨B,0,none⟩ a).setCell ⟨B,1,none⟩ b).setCell ⟨B,2,none⟩ c).cell? ⟨B,3,none⟩=some d':=by rw [World.cell?_setCell_other _ _ _ _ (by simp),World.cell?_setCell_other _ _ _ _ (by simp),World.cell?_setCell_other _ _ _ _ (by simp)]; exact h3
 have o4:((((w.setCell ⟨B,0,none⟩ a).setCell ⟨B,1,none⟩ b).setCell ⟨B,2,none⟩ c).setCell ⟨B,3,none⟩ d).cell? ⟨B,4,none⟩=some e':=by
  rw [World.cell?_setCell_other _ _ _ _ (by simp),World.cell?_setCell_other _ _ _ _ (by simp),World.cell?_setCell_other _ _ _ _ (by simp),World.cell?_setCell_other _ _ _ _ (by simp)]; exact h4
 refine ⟨?_,?_,?_,?_,?_⟩
 ·rw [World.cell?_setCell_other _ _ _ _ (by simp),World.cell?_setCell_other _ _ _ _ (by simp),World.cell?_setCell_other _ _ _ _ (by simp),World.cell?_setCell_other _ _ _ _ (by simp)]
  exact World.cell?_setCell_same _ _ _ h0
 ·rw [World.cell?_setCell_other _ _ _ _ (by simp),World.cell?_setCell_other _ _ _ _ (by simp),World.cell?_setCell_other _ _ _ _ (by simp)]
  exact World.cell?_setCell_same _ _ _ o1
 ·rw [World.cell?_setCell_other _ _ _ _ (by simp),World.cell?_setCell_other _ _ _ _ (by simp)]
  exact World.cell?_setCell_same _ _ _ o2
 ·rw [World.cell?_setCell_other _ _ _ _ (by simp)]
  exact World.cell?_setCell_same _ _ _ o3
 ·exact World.cell?_setCell_same _ _ _ o4

theorem set5D_below {w w1:World} (h:Below w.heap.size w w1) (B:Nat) (hB:w.heap.size≤B) (a b c d e:Value):Below w.heap.size w (set5D w1 B a b c d e) :=
 ((((h.setCell hB _).setCell hB _).setCell hB _).setCell hB _).setCell hB _

def Free5 (w:World) (b:Nat):Prop :=
 w.frozen? ⟨b,0,none⟩=false∧w.frozen? ⟨b,1,none⟩=false∧w.frozen? ⟨b,2,none⟩=false∧w.frozen? ⟨b,3,none⟩=false∧w.frozen? ⟨b,4,none⟩=false

theorem Free5.later {w w':World} {b:Nat} (h:Free5 w b) (hb:Below w.heap.size w w') (hlt:b < w.heap.size):Free5 w' b:=by
 obtain⟨h0,h1,h2,h3,h4⟩:=h
 have k:∀ o,w'.frozen? ⟨b,o,none⟩=w.frozen? ⟨b,o,none⟩:=fun o => hb.frozen (p:=⟨b,o,none⟩) hlt
 exact⟨(k _).trans h0,(k _).trans h1,(k _).trans h2,(k _).trans h3,(k _).trans h4⟩

theorem free5 {wr w1:World} {a b c d e:Value} {ty:TypeId} (hb:Below (wr.alloc (.cells #[a,b,c,d,e] ty)).heap.size (wr.alloc (.cells #[a,b,c,d,e] ty)) w1):Free5 w1 wr.heap.size:=by
 have k:∀ o,w1.frozen? ⟨wr.heap.size,o,none⟩=false:=fun o => by
  rw [hb.frozen (p:=⟨wr.heap.size,o,none⟩) (by show wr.heap.size < _; simp)]
  simp
 exact⟨k 0,k 1,k 2,k 3,k 4⟩

theorem five_set_alloc (w:World) (B:Nat) (o:Obj) (a b c d e:Value) {a' b' c' d' e':Value} (h0:w.cell? ⟨B,0,none⟩=some a') (h1:w.cell? ⟨B,1,none⟩=some b') (h2:w.cell? ⟨B,2,none⟩=some c') (h3:w.cell? ⟨B,3,none⟩=some d') (h4:w.cell? ⟨B,4,none⟩=some e') :
  ((set5D w B a b c d e).alloc o).cell? ⟨B,0,none⟩=some a∧((set5D w B a b c d e).alloc o).cell? ⟨B,1,none⟩=some b∧((set5D w B a b c d e).alloc o).cell? ⟨B,2,none⟩=some c∧((set5D w B a b c d e).alloc o).cell? ⟨B,3,none⟩=some d∧((set5D w B a b c d e).alloc o).cell? ⟨B,4,none⟩=some e:=by
 obtain⟨r0,r1,r2,r3,r4⟩:=five_set w B a b c d e h0 h1 h2 h3 h4
 have hb:Below (set5D w B a b c d e).heap.size (set5D w B a b c d e) ((set5D w B a b c d e).alloc o):=(Below.refl _ _).alloc (Nat.le_refl _) _
 exact⟨cell_later r0 hb,cell_later r1 hb,cell_later r2 hb,cell_later r3 hb,cell_later r4 hb⟩

theorem taker_id {l:List UInt8} {p:Nat} {c:List UInt8} {f er:Nat} (h:idTake l p=(c,f,er)) (he:er ≠ 0):diTakeRow l p=(Row.zero,0,er):=by
 unfold diTakeRow
 rw [h]
 simp only [if_pos he]

theorem taker_va {l:List UInt8} {p:Nat} {c:List UInt8} {f g er:Nat} {v:Val} (h:idTake l p=(c,f,0)) (h2:vaTake l f=(v,g,er)) (he:er ≠ 0):diTakeRow l p=(Row.zero,0,er):=by
 unfold diTakeRow
 rw [h]
 simp only [ne_eq,not_true_eq_false,if_false]
 rw [h2]
 simp only [if_pos he]

theorem taker_ok {l:List UInt8} {p:Nat} {c:List UInt8} {f g:Nat} {v:Val} (h:idTake l p=(c,f,0)) (h2:vaTake l f=(v,g,0)):diTakeRow l p=(⟨c,v⟩,g,0):=by
 unfold diTakeRow
 rw [h]
 simp only [ne_eq,not_true_eq_false,if_false]
 rw [h2]
 simp only [not_true_eq_false,if_false]

theorem taker_1 (l:List UInt8) (hl:l.length≤4294967296) (p:Nat) {c:List UInt8} {f er:Nat} (h:idTake l p=(c,f,er)) (he:er ≠ 0) (w:World) :
  Calls Tryz.prog 173 #[.string ⟨l.toArray⟩,.int .i64 p] w fun e w' => e=.returned (tripleR (diTakeRow l p))∧Below w.heap.size w w':=by
 have HR:=hZq (taker_id h he)
 have HT:=hZq (idtake_eq l hl p (hZq h))
 have t1:((er:Int) != 0)=true:=by simp; omega
 clear h he
 go_enter Tryz.func173,Tryz.ntmps173
 go_wp2_with fail
 refine (HT.out _).mono ?_
 rintro e w1 ⟨rfl,hb1⟩
 obtain⟨q0,q1,q2,q3,q4⟩:=(box5 (c:=[]) (st:=[]) hb1).1
 obtain⟨f0,f1,f2,f3,f4⟩:=free5 hb1
 have B1:=hZq (box5 (c:=[]) (st:=[]) hb1).2
 clear hb1
 go_wp2_with fail
 obtain⟨r0,r1,r2,r3,r4⟩:=five_set w1 w.heap.size (.string ⟨#[]⟩) (.int .i64 0) (.int .i64 0) (.int .i64 0) (.string ⟨#[]⟩) q0 q1 q2 q3 q4
 unfold set5D at r0 r1 r2 r3 r4
 exact bodyPost_ret (v:=tripleR (Row.zero,0,er)) (by simp [results,Tryz.results173,go_sem,tripleR,rowAgg,Row.zero,Val.zero,r0,r1,r2,r3,r4]) rfl ⟨by rw [HR.out],set5D_below B1.out _ (Nat.le_refl _) _ _ _ _ _⟩

theorem taker_2 (l:List UInt8) (hl:l.length≤4294967296) (p:Nat) {c:List UInt8} {f g er:Nat} {x y z:Int} {st:List UInt8} (h:idTake l p=(c,f,0)) (h2:vaTake l f=(⟨x,y,z,st⟩,g,er)) (he:er ≠ 0) (w:World) :
  Calls Tryz.prog 173 #[.string ⟨l.toArray⟩,.int .i64 p] w fun e w' => e=.returned (tripleR (diTakeRow l p))∧Below w.heap.size w w':=by
 have HR:=hZq (taker_va h h2 he)
 have HT:=hZq (idtake_eq l hl p (hZq h))
 have HU:=hZq (vatake_eq l hl f (hZq h2))
 have t1:((er:Int) != 0)=true:=by simp; omega
 clear h h2 he
 go_enter Tryz.func173,Tryz.ntmps173
 go_wp2_with fail
 refine (HT.out _).mono ?_
 rintro e w1 ⟨rfl,hb1⟩
 have Q1:=hZq (box5 (c:=[]) (st:=[]) hb1).1
 have F1:=hZq (free5 hb1)
 have B1:=hZq (box5 (c:=[]) (st:=[]) hb1).2
 clear hb1
 go_wp2_with fail
 refine (HU.out _).mono ?_
 rintro e w2 ⟨rfl,hb2⟩
 have B2:=hZq (below2' B1.out hb2)
 have hlt:=(Q1.out.later hb2).lt
 have k:=(Q1.out.later hb2)
 obtain⟨k0,k1,k2,k3,k4⟩:=k
 obtain⟨f0,f1,f2,f3,f4⟩:=F1.out.later hb2 Q1.out.lt
 clear hb2 B1 Q1 F1
 go_wp2_with fail
 obtain⟨r0,r1,r2,r3,r4⟩:=five_set_alloc w2 w.heap.size (.cells #[.int .i64 x,.int .i64 y,.int .i64 z,.string ⟨st.toArray⟩] 53) (.string ⟨#[]⟩) (.int .i64 0) (.int .i64 0) (.int .i64 0) (.string ⟨#[]⟩) k0 k1 k2 k3 k4
 unfold set5D at r0 r1 r2 r3 r4
 exact bodyPost_ret (v:=tripleR (Row.zero,0,er)) (by simp [results,Tryz.results173,go_sem,tripleR,rowAgg,Row.zero,Val.zero,r0,r1,r2,r3,r4]) rfl ⟨by rw [HR.out],bl_alloc (set5D_below B2.out _ (Nat.le_refl _) _ _ _ _ _) _⟩

theorem taker_3 (l:List UInt8) (hl:l.length≤4294967296) (p:Nat) {c:List UInt8} {f g:Nat} {x y z:Int} {st:List UInt8} (h:idTake l p=(c,f,0)) (h2:vaTake l f=(⟨x,y,z,st⟩,g,0)) (w:World) :
  Calls Tryz.prog 173 #[.string ⟨l.toArray⟩,.int .i64 p] w fun e w' => e=.returned (tripleR (diTakeRow l p))∧Below w.heap.size w w':=by
 have HR:=hZq (taker_ok h h2)
 have HT:=hZq (idtake_eq l hl p (hZq h))
 have HU:=hZq (vatake_eq l hl f (hZq h2))
 clear h h2
 go_enter Tryz.func173,Tryz.ntmps173
 go_wp2_with fail
 refine (HT.out _).mono ?_
 rintro e w1 ⟨rfl,hb1⟩
 have Q1:=hZq (box5 (c:=[]) (st:=[]) hb1).1
 have F1:=hZq (free5 hb1)
 have B1:=hZq (box5 (c:=[]) (st:=[]) hb1).2
 clear hb1
 go_wp2_with fail
 refine (HU.out _).mono ?_
 rintro e w2 ⟨rfl,hb2⟩
 have B2:=hZq (below2' B1.out hb2)
 have hlt:=(Q1.out.later hb2).lt
 have k:=(Q1.out.later hb2)
 obtain⟨k0,k1,k2,k3,k4⟩:=k
 obtain⟨f0,f1,f2,f3,f4⟩:=F1.out.later hb2 Q1.out.lt
 clear hb2 B1 Q1 F1
 go_wp2_with fail
 obtain⟨r0,r1,r2,r3,r4⟩:=five_set_alloc w2 w.heap.size (.cells #[.int .i64 x,.int .i64 y,.int .i64 z,.string ⟨st.toArray⟩] 53) (.string ⟨c.toArray⟩) (.int .i64 x) (.int .i64 y) (.int .i64 z) (.string ⟨st.toArray⟩) k0 k1 k2 k3 k4
 unfold set5D at r0 r1 r2 r3 r4
 exact bodyPost_ret (v:=tripleR (⟨c,x,y,z,st⟩,g,0)) (by simp [results,Tryz.results173,go_sem,tripleR,rowAgg,r0,r1,r2,r3,r4]) rfl ⟨by rw [HR.out],bl_alloc (set5D_below B2.out _ (Nat.le_refl _) _ _ _ _ _) _⟩

theorem taker_any (l:List UInt8) (hl:l.length≤4294967296) (p:Nat) (w:World) :
  Calls Tryz.prog 173 #[.string ⟨l.toArray⟩,.int .i64 p] w fun e w' => e=.returned (tripleR (diTakeRow l p))∧Below w.heap.size w w':=by
 obtain⟨c,f,er,h⟩ : ∃ c f er,idTake l p=(c,f,er):=⟨_,_,_,rfl⟩
 by_cases he:er=0
 ·subst he
  obtain⟨x,y,z,st,g,es,h2⟩ : ∃ x y z st g es,vaTake l f=(⟨x,y,z,st⟩,g,es):=⟨_,_,_,_,_,_,rfl⟩
  by_cases hes:es=0
  ·subst hes
   exact taker_3 l hl p h h2 w
  ·exact taker_2 l hl p h h2 hes w
 ·exact taker_1 l hl p h he w

theorem taker_eq (l:List UInt8) (hl:l.length≤4294967296) (p:Nat) {c st:List UInt8} {x y z:Int} {f er:Nat} (h:Hid (diTakeRow l p=(⟨c,x,y,z,st⟩,f,er))) (w:World) :
  Calls Tryz.prog 173 #[.string ⟨l.toArray⟩,.int .i64 p] w fun e w' => e=.returned (.tuple #[.agg #[.string ⟨c.toArray⟩,.int .i64 x,.int .i64 y,.int .i64 z,.string ⟨st.toArray⟩],.int .i64 f,.int .i64 er])∧Below w.heap.size w w':=by
 have:=taker_any l hl p w
 rwa [h.out] at this
end
section
open Go.RowKit

def cellsOf (t:List Row):List Value:=(t.map rowVals).flatten

theorem cellsOf_nil:cellsOf []=[]:=rfl
theorem cellsOf_cons (r:Row) (t:List Row):cellsOf (r :: t)=rowVals r ++ cellsOf t:=rfl
theorem cellsOf_append (a b:List Row):cellsOf (a ++ b)=cellsOf a ++ cellsOf b:=by simp [cellsOf]
theorem cellsOf_one (r:Row):cellsOf [r]=rowVals r:=by simp [cellsOf]

theorem rowVals_len (r:Row):(rowVals r).length=5:=rfl

theorem cellsOf_len:∀ t:List Row,(cellsOf t).length=t.length * 5
 | [] => rfl
 | r :: t => by rw [cellsOf_cons,List.length_append,rowVals_len,cellsOf_len t,List.length_cons]; omega

theorem cellsOf_at:∀ (t:List Row) (i j:Nat),i < t.length→j < 5→(cellsOf t)[i * 5+j]?=(rowVals (t.getD i Row.zero))[j]?
 | [],i,j,h,_ => by simp at h
 | r :: t,0,j,_,hj => by
  rw [cellsOf_cons,Nat.zero_mul,Nat.zero_add,List.getElem?_append_left (by rw [rowVals_len]; exact hj)]
  rfl
 | r :: t,i+1,j,h,hj => by
  rw [cellsOf_cons,List.getElem?_append_right (by rw [rowVals_len]; omega),rowVals_len,show (i+1) * 5+j - 5=i * 5+j by omega,cellsOf_at t i j (by simpa using h) hj]
  rfl

theorem cellsOf_single (t:List Row):∀ u ∈ cellsOf t,u.oneCell'=true:=by
 intro u hu
 obtain⟨l,hl,hu⟩:=List.mem_flatten.1 hu
 obtain⟨r,_,rfl⟩:=List.mem_map.1 hl
 simp only [rowVals,List.mem_cons,List.not_mem_nil,or_false] at hu
 rcases hu with rfl | rfl | rfl | rfl | rfl <;> rfl

theorem cells5_of {w:World} {b o:Nat} {r:Row} (h:∀ j u,(rowVals r)[j]?=some u→w.cell? ⟨b,o+j,none⟩=some u):Cells5 w b o r :=
 ⟨h 0 _ rfl,h 1 _ rfl,h 2 _ rfl,h 3 _ rfl,h 4 _ rfl⟩

theorem cells5_get {w:World} {b o:Nat} {r:Row} (h:Cells5 w b o r):∀ j u,(rowVals r)[j]?=some u→w.cell? ⟨b,o+j,none⟩=some u:=by
 obtain⟨h0,h1,h2,h3,h4⟩:=h
 intro j u hu
 match j,hu with
 | 0,hu => rw [← hu]; exact h0
 | 1,hu => rw [← hu]; exact h1
 | 2,hu => rw [← hu]; exact h2
 | 3,hu => rw [← hu]; exact h3
 | 4,hu => rw [← hu]; exact h4
 | n+5,hu => simp [rowVals] at hu

def OwnR (w:World) (base:Nat) (v:Value) (t:List Row):Prop:=w.ownsRow base 73 5 v t.length (cellsOf t)

theorem OwnR.alloc {w:World} {base:Nat} {v:Value} {t:List Row} (h:OwnR w base v t) (o:Obj):OwnR (w.alloc o) base v t:=World.ownsRow.alloc h o

theorem ownR_nil (w:World) (base:Nat):OwnR w base (.slice none 0 0) []:=World.ownsRow_nil w base _ _

theorem ownR_made (w:World):OwnR (w.alloc (.cells #[] 73)) w.heap.size (.slice (some ⟨w.heap.size,0,none⟩) 0 0) []:=World.ownsRow_made w #[] 0 (Nat.le_refl _) (by decide) rfl

theorem OwnR.later {w w':World} {base:Nat} {v:Value} {t:List Row} (h:OwnR w base v t) (hb:Below w.heap.size w w'):OwnR w' base v t:=by
 refine ⟨h.1,?_⟩
 rcases h.2 with h' | ⟨g,cap,cur,h1,h2,h3,h4⟩
 ·exact .inl h'
 ·exact .inr ⟨g,cap,cur,h1,h2,by rw [hb.block g (Array.getElem?_eq_some_iff.1 h3).1]; exact h3,h4⟩

theorem OwnR.tab {w:World} {base:Nat} {v:Value} {t:List Row} (h:OwnR w base v t):Tab w v t:=by
 rcases h with ⟨_,⟨rfl,h0⟩ | ⟨g,cap,cur,rfl,hb,hg,hn,hc,hsz,htk⟩⟩
 ·obtain rfl:t=[]:=List.length_eq_zero_iff.1 h0
  exact tab_nil w
 ·refine ⟨some ⟨g,0,none⟩,cap,rfl,hn,hc,(fun e => by cases e),.inr ⟨g,0,rfl,(Array.getElem?_eq_some_iff.1 hg).1,fun i hi => ?_⟩⟩
  refine cells5_of fun j u hu => ?_
  have hj:j < 5:=by have:=(List.getElem?_eq_some_iff.1 hu).1; rwa [rowVals_len] at this
  rw [Nat.zero_add,cell_of_row w g (i * 5+j) cur _ (0,0) hg]
  have h1:cur.toList[i * 5+j]?=(cellsOf t)[i * 5+j]?:=by
   rw [← htk,List.getElem?_take,if_pos (by omega)]
  rw [← hu,← cellsOf_at t i j hi hj,← h1]
  simp

theorem Tryz.infoSeen:(Tryz.prog.info? 73).map (fun i => (i.zero,i.size,i.bytes))=some (some (.agg #[.string ⟨#[]⟩,.int .i64 0,.int .i64 0,.int .i64 0,.string ⟨#[]⟩]),5,56):=by kernel_rfl

theorem wpList_append_rows {w:World} {ops:Array Oper} {rest:List Oper} {o:Oper} {a:Act} {Q:Exit→Act→World→Prop}
  (hgd:o.guard=none) (s x:Operand) (ho:o.op=.call { callee:=.builtin .append,args:=#[s,x],argTypes:=#[31,31] })
  (base:Nat) (v:Value) (t:List Row) (hs:a.eval s=v) (hown:OwnR w base v t)
  (ao:Option Addr) (m c:Nat) (ms:List Row) (hx:a.eval x=.slice ao m c) (hm:m=ms.length) (hnone:ao=none→c=0∧ms=[])
  (hsome:∀ ad,ao=some ad→∀ j u,(cellsOf ms)[j]?=some u→w.cell? (ad.add j)=some u)
  (hlen:t.length+ms.length < 4294967296) (hbase:base≤w.heap.size)
  (h:∀ v' w',OwnR w' base v' (t ++ ms)→Below base w w'→wpList Tryz.prog ops Q rest (a.put o.dst v') w') :
  wpList Tryz.prog ops Q (o :: rest) a w:=by
 obtain⟨i,hi,hz,hsize,hby⟩:=info_parts Tryz.infoSeen
 cases ao with
 | none =>
  obtain⟨rfl,rfl⟩:=hnone rfl
  simp only [List.length_nil] at hm
  subst hm
  exact wpList_append_own_none hgd s x 31 ho base 73 i 5 Tryz.underlying31 hi v t.length (cellsOf t) hs hown hx (h v w (by simpa using hown) (Below.refl _ _))
 | some ad =>
  subst hm
  refine wpList_append_own _ hgd s x 31 ho base 73 i _ 5 56 Tryz.underlying31 hi hz hsize hby rfl (by decide) v t.length (cellsOf t) hs hown ad ms.length c (cellsOf ms) hx (cellsOf_len ms) (hsome ad rfl) (cellsOf_single ms)
   (by unfold maxLen; omega) (by omega) hbase ?_
  intro v' w' hown' hgrow _
  refine h v' w' ?_ ((Below.refl base w).grown hgrow hbase (fun k hk => (World.ownsRow.lt hown k hk).1))
  unfold OwnR
  rw [cellsOf_append,List.length_append]
  exact hown'

theorem new_row {w:World} {r:Row} {e:TypeId} {B:Nat} (hB:B=w.heap.size):∀ ad,some (⟨B,0,none⟩ : Addr)=some ad→∀ j u,(cellsOf [r])[j]?=some u→(w.alloc (.cells #[.string ⟨r.c.toArray⟩,.int .i64 r.v.sh,.int .i64 r.v.pr,.int .i64 r.v.si,.string ⟨r.v.st.toArray⟩] e)).cell? (ad.add j)=some u:=by
 intro ad had j u hu
 subst hB
 obtain rfl:=Option.some.inj had
 rw [cellsOf_one] at hu
 rw [Addr.add_lit,Nat.zero_add,World.cell?_alloc_at _ _ _ _ rfl,← hu]
 simp [rowVals]
end
section
open Go.RowKit

def Took (r:List Row × Nat × Nat) (w:World) (e:Ending) (w':World):Prop :=
 ∃ v,e=.returned (.tuple #[v,.int .i64 r.2.1,.int .i64 r.2.2])∧Tab w' v r.1∧Below w.heap.size w w'

theorem ditake_1 {l:List UInt8} {p:Int} {n f er:Nat} (h:vget l p=(n,f,er)) (he:er ≠ 0):diTake l p=([],0,er):=by
 unfold diTake
 rw [h]
 simp only [if_pos he]

theorem ditake_2 {l:List UInt8} {p:Int} {n f:Nat} (h:vget l p=(n,f,0)) (hn:32 < n):diTake l p=([],0,3):=by
 unfold diTake
 rw [h]
 simp only [ne_eq,not_true_eq_false,if_false,if_pos hn]

theorem ditake_3 {l:List UInt8} {p:Int} {n f:Nat} {T:List Row} {g es:Nat} (h:vget l p=(n,f,0)) (hn:¬ 32 < n) (h2:diRows n l f=(T,g,es)) (he:es ≠ 0):diTake l p=([],0,es):=by
 unfold diTake
 rw [h]
 simp only [ne_eq,not_true_eq_false,if_false,if_neg hn]
 rw [h2]
 simp only [if_pos he]

theorem ditake_4 {l:List UInt8} {p:Int} {n f:Nat} {T:List Row} {g:Nat} (h:vget l p=(n,f,0)) (hn:¬ 32 < n) (h2:diRows n l f=(T,g,0)) (hm:diMay T=false):diTake l p=([],0,3):=by
 unfold diTake
 rw [h]
 simp only [ne_eq,not_true_eq_false,if_false,if_neg hn]
 rw [h2]
 simp only [not_true_eq_false,if_false]
 rw [if_pos hm]

theorem ditake_5 {l:List UInt8} {p:Int} {n f:Nat} {T:List Row} {g:Nat} (h:vget l p=(n,f,0)) (hn:¬ 32 < n) (h2:diRows n l f=(T,g,0)) (hm:diMay T=true):diTake l p=(T,g,0):=by
 unfold diTake
 rw [h]
 simp only [ne_eq,not_true_eq_false,if_false,if_neg hn]
 rw [h2]
 simp only [not_true_eq_false,if_false]
 rw [if_neg (by rw [hm]; decide)]

theorem ok_short {t:List Row} (h:∀ r ∈ t,rowOk r=true):Short t:=fun r hr => by
 obtain⟨h1,h2⟩:=rowOk_parts (h r hr)
 have a:=(idIs_parts h1).2.1
 have b:=vaMay_parts h2
 omega
end
section
open Go.RowKit
end
section
open Go.RowKit

def pairG (r:Val × Bool):Value:=.tuple #[valV r.1,.bool r.2]
end
section
open Go.RowKit

theorem cell_after {w w':World} {a:Addr} {v:Value} (h:w.cell? a=some v) (hb:Below w.heap.size w w'):w'.cell? a=some v :=
 (hb.cell (World.block_lt_of_cell? w a h)).trans h

def encS (l:List UInt8):Value:=.string ⟨l.toArray⟩

def Texts (w:World) (v:Value) (ls:List (List UInt8)):Prop :=
 ∃ a cap,v=.slice a ls.length cap∧ls.length≤cap∧cap≤maxLen∧(a=none→cap=0) ∧
  (ls=[]∨∃ b off,a=some ⟨b,off,none⟩∧b < w.heap.size∧∀ i,i < ls.length→w.cell? ⟨b,off+i,none⟩=some (encS (ls.getD i [])))

theorem Texts.later {w w':World} {v:Value} {ls:List (List UInt8)} (h:Texts w v ls) (hb:Below w.heap.size w w'):Texts w' v ls:=by
 obtain⟨a,cap,h1,h2,h3,h4,h5⟩:=h
 refine ⟨a,cap,h1,h2,h3,h4,?_⟩
 rcases h5 with h5 | ⟨b,off,e,hlt,hc⟩
 ·exact .inl h5
 ·exact .inr ⟨b,off,e,Nat.lt_of_lt_of_le hlt hb.size,fun i hi => (hb.cell (p:=⟨b,off+i,none⟩) hlt).trans (hc i hi)⟩

theorem texts_nil (w:World):Texts w (.slice none 0 0) []:=⟨none,0,rfl,by simp,by simp,fun _ => rfl,.inl rfl⟩

theorem encS_one (ls:List (List UInt8)):∀ u ∈ ls.map encS,u.oneCell'=true:=by
 intro u hu
 obtain⟨l,_,rfl⟩:=List.mem_map.1 hu
 rfl

theorem texts_of_own {w:World} {base e:Nat} {v:Value} {ls:List (List UInt8)} (h:w.ownsRow base e 1 v ls.length (ls.map encS)):Texts w v ls:=by
 rcases h with ⟨_,⟨rfl,h0⟩ | ⟨g,cap,cur,rfl,hb,hg,hn,hc,hsz,htk⟩⟩
 ·obtain rfl:ls=[]:=List.length_eq_zero_iff.1 h0
  exact texts_nil w
 ·refine ⟨some ⟨g,0,none⟩,cap,rfl,hn,hc,(fun e => by cases e),?_⟩
  refine .inr ⟨g,0,rfl,(Array.getElem?_eq_some_iff.1 hg).1,fun i hi => ?_⟩
  rw [Nat.zero_add,cell_of_row w g i cur e (0,0) hg]
  have h1:cur.toList[i]?=(ls.map encS)[i]?:=by
   rw [← htk,List.getElem?_take,if_pos (by omega)]
  have h2:(ls.map encS)[i]?=some (encS (ls.getD i [])):=by
   simp [List.getD,List.getElem?_eq_getElem hi]
  rw [← h2,← h1]
  simp

def OwnT (w:World) (base e:Nat) (v:Value) (ls:List (List UInt8)):Prop:=w.ownsRow base e 1 v ls.length (ls.map encS)

theorem OwnT.alloc {w:World} {base e:Nat} {v:Value} {ls:List (List UInt8)} (h:OwnT w base e v ls) (o:Obj):OwnT (w.alloc o) base e v ls:=World.ownsRow.alloc h o
theorem OwnT.texts {w:World} {base e:Nat} {v:Value} {ls:List (List UInt8)} (h:OwnT w base e v ls):Texts w v ls:=texts_of_own h
theorem wpList_append_texts {P:Program} {w:World} {ops:Array Oper} {rest:List Oper} {o:Oper} {a:Act} {Q:Exit→Act→World→Prop}
  (hgd:o.guard=none) (s x:Operand) (t:TypeId) (ho:o.op=.call { callee:=.builtin .append,args:=#[s,x],argTypes:=#[t,t] })
  (base:Nat) (e:TypeId) (i:TypeInfo) (z:Value) (bytes:Nat) (ht:P.underlying t=some (.slice e)) (hi:P.info? e=some i) (hz:i.zero=some z)
  (hsize:i.size=1) (hby:i.bytes=bytes) (hzs:z.cells.size=1)
  (v:Value) (ls:List (List UInt8)) (hs:a.eval s=v) (hown:OwnT w base e v ls)
  (ao:Option Addr) (m c:Nat) (ms:List (List UInt8)) (hx:a.eval x=.slice ao m c) (hm:m=ms.length) (hnone:ao=none→c=0∧ms=[])
  (hsome:∀ ad,ao=some ad→∀ j u,(ms.map encS)[j]?=some u→w.cell? (ad.add j)=some u)
  (hlen:ls.length+ms.length < 4294967296) (hb:bytes≤4096) (hbase:base≤w.heap.size)
  (h:∀ v' w',OwnT w' base e v' (ls ++ ms)→Below base w w'→wpList P ops Q rest (a.put o.dst v') w') :
  wpList P ops Q (o :: rest) a w:=by
 cases ao with
 | none =>
  obtain⟨rfl,rfl⟩:=hnone rfl
  simp only [List.length_nil] at hm
  subst hm
  exact wpList_append_own_none hgd s x t ho base e i 1 ht hi v ls.length (ls.map encS) hs hown hx (h v w (by simpa using hown) (Below.refl _ _))
 | some ad =>
  subst hm
  refine wpList_append_own _ hgd s x t ho base e i z 1 bytes ht hi hz hsize hby hzs (by decide) v ls.length (ls.map encS) hs hown ad ms.length c (ms.map encS) hx (by simp) (hsome ad rfl) (encS_one ms)
   (by unfold maxLen; omega) (Nat.le_trans (Nat.mul_le_mul (show ls.length+ms.length≤4294967296 by omega) hb) (by decide)) hbase ?_
  intro v' w' hown' hgrow _
  refine h v' w' ?_ ((Below.refl base w).grown hgrow hbase (fun k hk => (World.ownsRow.lt hown k hk).1))
  unfold OwnT
  rw [List.map_append,List.length_append]
  exact hown'
end
section
open Go.RowKit

theorem Tryz.infoStr:(Tryz.prog.info? 9).map (fun i => (i.zero,i.size,i.bytes))=some (some (.string ⟨#[]⟩),1,16):=by kernel_rfl

def fewB (ls:List (List UInt8)):Bool:=decide (ls.length≤30) && ls.all fun t => decide (t.length≤30)

theorem getD_some {ls:List (List UInt8)} {k:Nat} (h:k < ls.length):ls[k]?=some (ls.getD k []):=by simp [List.getD,List.getElem?_eq_getElem h]
end
section
open Go.RowKit

def Heaped (w:World) (v:Value) (ls:List (List UInt8)):Prop:=Texts w v ls∧(ls=[]→v=.slice none 0 0)
end
section
open Go.RowKit

theorem Heaped.later {w w':World} {v:Value} {ls:List (List UInt8)} (h:Heaped w v ls) (hb:Below w.heap.size w w'):Heaped w' v ls:=⟨h.1.later hb,h.2⟩

theorem Texts.cell {w wr:World} {a:Option Addr} {n cap:Nat} {ls:List (List UInt8)} (h:Texts w (.slice a n cap) ls) (hb:Below w.heap.size w wr) (k:Nat) (hk:k < ls.length) :
  ∃ b off,a=some ⟨b,off,none⟩∧wr.cell? ⟨b,off+k,none⟩=some (.string ⟨(ls.getD k []).toArray⟩):=by
 obtain⟨a',cap',e,_,_,_,h⟩:=h.later hb
 simp only [Value.slice.injEq] at e
 rcases h with h | ⟨b,off,e',_,hc⟩
 ·rw [h] at hk; simp at hk
 ·exact⟨b,off,e.1.trans e',hc k hk⟩
end
section
open Go.RowKit

theorem zeros_size (z:Value) (hz:z.cells.size=1) (n:Nat):(Builtin.zeroCells z.cells n).size=n:=by
 unfold Builtin.zeroCells
 simp [hz]

theorem grow_nil (n:Nat) (hn:n≤1000) (w:World) :
  Calls Tryz.prog 187 #[.slice none 0 0,.int .i64 n] w fun e w' => ∃ v,e=.returned v∧OwnT w' w.heap.size 9 v []∧Below w.heap.size w w':=by
 obtain⟨i0,hi,hz0,hz1,hz2⟩:=info_parts Tryz.infoStr
 by_cases h0:n=0
 ·subst h0
  go_enter Tryz.func187,Tryz.ntmps187
  go_wp2_with fail
  go_ret
  exact⟨_,rfl,World.ownsRow_nil _ _ _ _,Below.refl _ _⟩
 ·have hrz:=fun ty => Lib.run_append_nil_zeros (P:=Tryz.prog) w 183 3 ty 9 i0 _ .i64 .i64 Tryz.underlying183 Tryz.underlying3 hi hz0 n (by omega) (by omega) (by omega) (by rw [hz2]; omega)
  have hG1:=grownCap_ge w n 0 9
  have hG2:=grownCap_le_maxLen w n 0 9 (by unfold maxLen; omega)
  obtain⟨G,hG⟩ : ∃ G,G=grownCap w n 0 9:=⟨_,rfl⟩
  rw [← hG] at hrz hG1 hG2
  have hO:Hid (OwnT (w.drew.alloc (.cells (Builtin.zeroCells (Value.string ⟨#[]⟩).cells n ++ Builtin.zeroCells (Value.string ⟨#[]⟩).cells (G - n)) 9)) w.heap.size 9 (.slice (some ⟨w.heap.size,0,none⟩) 0 G) []):=by
   refine World.ownsRow_made (base:=w.heap.size) w.drew _ G (Nat.le_refl _) hG2 ?_
   rw [Array.size_append,zeros_size _ rfl,zeros_size _ rfl]
   omega
  have h1:0 < n:=by omega
  unfold maxLen at hG2
  clear hG h0
  go_enter Tryz.func187,Tryz.ntmps187
  go_wp2_with (at_builtin; go_must (refine Lib.wpList_append_run _ rfl _ _ _ _ rfl _ _ rfl rfl _ _ (hrz _) ?_))
  go_wp2_with fail
  go_ret
  exact⟨_,rfl,hO.out,(Below.refl _ _).drew.alloc (Nat.le_refl _) _⟩

theorem texts_src {W:World} {a:Option Addr} {n cap:Nat} {ls:List (List UInt8)} (h:Texts W (.slice a n cap) ls) :
  n=ls.length∧(a=none→cap=0∧ls=[])∧(∀ ad,a=some ad→∀ j u,(ls.map encS)[j]?=some u→W.cell? (ad.add j)=some u):=by
 obtain⟨a',cap',e,h1,h2,h3,h4⟩:=h
 simp only [Value.slice.injEq] at e
 obtain⟨rfl,rfl,rfl⟩:=e
 refine ⟨rfl,fun e => ⟨h3 e,List.length_eq_zero_iff.1 (by have:=h3 e; omega)⟩,?_⟩
 rintro ad rfl j u hu
 have hj:j < ls.length:=by
  have:=(List.getElem?_eq_some_iff.1 hu).1
  simpa using this
 rcases h4 with h | ⟨b,off,e,_,hc⟩
 ·rw [h] at hj; simp at hj
 ·obtain rfl:=Option.some.inj e
  rw [List.getElem?_map,getD_some hj] at hu
  simp only [Option.map_some,Option.some.injEq] at hu
  rw [Addr.add_lit,hc j hj,hu]

theorem concat_sum {w:World} {va vb:Value} {ls ms:List (List UInt8)} (ha:Texts w va ls) (hb:Texts w vb ms) (hlm:ls.length+ms.length≤1000)
  (B:Nat) (k0:w.cell? ⟨B,0,none⟩=some va) (k1:w.cell? ⟨B,1,none⟩=some vb) :
  Calls Tryz.prog 181 #[.slice (some ⟨B,0,none⟩) 2 2] w fun e w' => ∃ v,e=.returned v∧OwnT w' w.heap.size 9 v (ls ++ ms)∧Below w.heap.size w w':=by
 have hl:ls.length≤1000:=by omega
 have hm:ms.length≤1000:=by omega
 obtain⟨i0,hi,hz0,hz1,hz2⟩:=info_parts Tryz.infoStr
 have HA:=hZq ha
 have HB:=hZq hb
 obtain⟨a,cap,rfl,_,_,_,_⟩:=ha
 obtain⟨a2,cap2,rfl,_,_,_,_⟩:=hb
 have HG:=hZq (grow_nil (ls.length+ms.length) (by omega))
 have K0:=hZq k0
 have K1:=hZq k1
 have hB:=World.block_lt_of_cell? w _ k0
 simp only at hB
 go_enter Tryz.func181,Tryz.ntmps181
 go_wp2_with fail
 refine wp_loop_rounds 3 ?_
 rw [rounds_succ]
 go_wp2_with fail
 rw [rounds_succ]
 go_wp2_with fail
 rw [rounds_succ]
 go_wp2_with fail
 refine (HG.out _).mono ?_
 rintro e w1 ⟨v1,rfl,ho1,hb1⟩
 have HO1:=hZq ho1
 have HB1:=hZq hb1
 have k0:=cell_after K0.out hb1
 have k1:=cell_after K1.out hb1
 have hA1:=hZq (texts_src (HA.out.later hb1))
 have hsz1:=hb1.size
 clear hb1 ho1
 go_wp2_with fail
 refine wp_loop_rounds 3 ?_
 rw [rounds_succ]
 go_wp2_with (at_builtin; go_must (refine wpList_append_texts rfl _ _ 183 rfl w.heap.size 9 i0 _ 16 Tryz.underlying183 hi hz0 hz1 hz2 rfl _ _ rfl (by exact HO1.out) a ls.length cap ls rfl rfl hA1.out.2.1 hA1.out.2.2 (by simp; omega) (by decide) hsz1 ?_))
 intro v2 w2 hown2 hb2
 have HB2:Hid (Below w.heap.size w w2):=HB1.out.trans hb2
 have hsz2:w.heap.size≤w2.heap.size:=HB2.out.size
 have k1:=cell_after K1.out HB2.out
 have hA2:=hZq (texts_src (HB.out.later HB2.out))
 have HO2:=hZq hown2
 clear hb2 hown2 k0
 go_wp2_with fail
 rw [rounds_succ]
 go_wp2_with (at_builtin; go_must (refine wpList_append_texts rfl _ _ 183 rfl w.heap.size 9 i0 _ 16 Tryz.underlying183 hi hz0 hz1 hz2 rfl _ _ rfl (by exact HO2.out) a2 ms.length cap2 ms rfl rfl hA2.out.2.1 hA2.out.2.2 (by first | omega | (simp; omega)) (by decide) hsz2 ?_))
 intro v3 w3 hown3 hb3
 have HB3:Hid (Below w.heap.size w w3):=HB2.out.trans hb3
 have HO3:=hZq hown3
 clear hb3 hown3 k1
 go_wp2_with fail
 rw [rounds_succ]
 go_wp2_with fail
 go_ret
 exact⟨_,rfl,by have:=HO3.out; simpa using this,HB3.out⟩

theorem concat_any {w:World} {va vb:Value} {ls ms:List (List UInt8)} (ha:Texts w va ls) (hb:Texts w vb ms) (hl:ls.length≤100) (hm:ms.length≤100)
  (B:Nat) (k0:w.cell? ⟨B,0,none⟩=some va) (k1:w.cell? ⟨B,1,none⟩=some vb) :
  Calls Tryz.prog 181 #[.slice (some ⟨B,0,none⟩) 2 2] w fun e w' => ∃ v,e=.returned v∧OwnT w' w.heap.size 9 v (ls ++ ms)∧Below w.heap.size w w' :=
 concat_sum ha hb (by omega) B k0 k1
end
section
open Go.RowKit Go.Lib Go.Sort

theorem encS_cell:OneCell encS:=fun _ => rfl

theorem eql_S : EqlAt Tryz.prog 9 encS (fun x y => decide (x = y)) :=
  ⟨fun x y w => by rw [show encS x = .string ⟨x.toArray⟩ from rfl, show encS y = .string ⟨y.toArray⟩ from rfl, (EqlAt.string Tryz.prog 9).1]; by_cases h : x = y <;> simp [h, ByteArray.toList_eq],
   fun op a b x y w => GuardAt.string Tryz.prog 9 op a b _ _ w⟩

theorem neq_S : NeqAt Tryz.prog 9 encS (fun x y => decide (x = y)) :=
  ⟨fun x y w => by rw [show encS x = .string ⟨x.toArray⟩ from rfl, show encS y = .string ⟨y.toArray⟩ from rfl, (NeqAt.string Tryz.prog 9).1]; by_cases h : x = y <;> simp [h, ByteArray.toList_eq],
   fun op a b x y w => GuardAt.string Tryz.prog 9 op a b _ _ w⟩

theorem compare_lays (blk off size:Nat) (w:World):CmpLays1 Tryz.prog 115 #[] encS idCmp blk off size w :=
 fun m os dk _ x y => (compare_any x y (sortWorld encS w blk off m dk os)).mono fun _ _ ⟨he,o,hw⟩ => ⟨he,0,#[o],by rw [hw,alloc_eq_grow]; rfl⟩

theorem below_grow {B:Nat} {w0 w:World} (h:Below B w0 w) (hB:B≤w.heap.size) (os:Array Obj):Below B w0 (grow w os) :=
 ⟨h.os,h.tape,h.output,by have:=h.size; simp only [grow,Array.size_append]; omega,fun k hk => by
  rw [← h.block k hk]
  simp only [grow]
  rw [Array.getElem?_append_left (by omega)]⟩

theorem sorted_row {w1:World} {g n:Nat} {d d':Array (List UInt8)} {os:Array Obj} (hH:Holds encS w1 g 0 d) (hg:g < w1.heap.size) (hd:d'.size=d.size) :
  Holds encS (sortWorld encS w1 g 0 n d' os) g 0 d':=by
 unfold sortWorld
 refine holds_grow encS _ os g 0 d' ?_ (holds_putRow encS _ g 0 d d' (holds_ahead encS w1 n g 0 d hH) hd)
 simpa [putRow,mapBlock,Sort.ahead] using hg

theorem sorted_below {B:Nat} {w0 w1:World} {g n:Nat} {d':Array (List UInt8)} {os:Array Obj} (h:Below B w0 w1) (hB:B≤w1.heap.size) (hg:B≤g):Below B w0 (sortWorld encS w1 g 0 n d' os):=by
 unfold sortWorld
 refine below_grow (below_putRow h hg) ?_ os
 simpa [putRow,mapBlock,Sort.ahead] using hB

theorem compact_texts {w2:World} {g q cap:Nat} {d:Array (List UInt8)} (hH:Holds encS w2 g 0 d) (hg:g < w2.heap.size) (hn:d.size≤cap) (hc:cap≤maxLen) {ls:List (List UInt8)} (hle:ls.length≤d.size) :
  Texts (putRow encS (Sort.ahead w2 q) g 0 (ls ++ List.replicate (d.size - ls.length) []).toArray) (.slice (some ⟨g,0,none⟩) ls.length cap) ls:=by
 refine ⟨some ⟨g,0,none⟩,cap,rfl,by omega,hc,(fun e => by cases e),.inr ⟨g,0,rfl,?_,fun i hi => ?_⟩⟩
 ·simpa [putRow,mapBlock,Sort.ahead] using hg
 ·have h:=holds_putRow encS (Sort.ahead w2 q) g 0 d (ls ++ List.replicate (d.size - ls.length) []).toArray (holds_ahead encS w2 q g 0 d hH) (by simp; omega)
  have h1:=(h i (by simp; omega)).1
  rw [h1]
  congr 2
  rw [getElem!_pos _ i (by simp; omega)]
  simp [List.getD,hi]

theorem compact_len (d:Array (List UInt8)):(compactUpTo d d.size).length≤d.size:=by
 unfold compactUpTo
 rw [List.length_map]
 exact Nat.le_trans (List.length_filter_le _ _) (by simp)

theorem merge_any {w:World} {va vb:Value} {ls ms:List (List UInt8)} (ha:Texts w va ls) (hb:Texts w vb ms) (hl:ls.length≤100) (hm:ms.length≤100) :
  Calls Tryz.prog 175 #[va,vb] w fun e w' => ∃ v,e=.returned v∧Texts w' v (mrg (ls ++ ms))∧Below w.heap.size w w':=by
 have eg:∀ args w,(callFunc 115 args).run Tryz.prog w=.ok (.enter 115 args) w:=enters_of Tryz.func115 (by kernel_rfl) rfl
 have hB0:Below w.heap.size w (w.alloc (.cells #[va,vb] 183)):=(Below.refl _ _).alloc (Nat.le_refl _) _
 have HC:=hZq (concat_any (ha.later hB0) (hb.later hB0) hl hm w.heap.size (by simp) (by simp))
 have HB0:=hZq hB0
 obtain⟨a,cap,rfl,_,_,_,_⟩:=ha
 obtain⟨a2,cap2,rfl,_,_,_,_⟩:=hb
 clear hB0
 go_enter Tryz.func175,Tryz.ntmps175
 go_wp2_with fail
 refine HC.out.mono ?_
 rintro e w1 ⟨v1,rfl,ho1,hb1⟩
 have HB1:=hZq (below2' HB0.out hb1)
 have hsz1:w.heap.size+1≤w1.heap.size:=by have:=hb1.size; simpa using this
 have HO1:=hZq ho1
 clear hb1 ho1 HC HB0
 by_cases h0:ls ++ ms=[]
 ·have hr:Hid (mrg (ls ++ ms)=[]):=by show _=_; rw [h0]; rfl
  obtain⟨p,c,rfl,_⟩ : ∃ p c,v1=.slice p 0 c∧True:=by
   obtain⟨p,c,e,_⟩:=HO1.out.texts
   rw [h0] at e
   exact⟨p,c,e,trivial⟩
  have HT:=hZq HO1.out.texts
  have HS:=hZq (Tryz.slices_SortFunc_none (α:=List UInt8) p c (.func (.func 115) #[] #[]) w1)
  have HK:=hZq (Tryz.slices_Compact_string_empty p c w1)
  have H0:=hZq h0
  clear h0
  go_wp2_with fail
  refine HS.out.mono ?_
  rintro e w' ⟨rfl,rfl⟩
  go_wp2_with fail
  refine HK.out.mono ?_
  rintro e w' ⟨rfl,rfl⟩
  go_wp2_with fail
  go_ret
  exact⟨_,rfl,by rw [hr.out]; have:=HT.out; rw [H0.out] at this; exact this,HB1.out⟩
 ·have hv:v1 ≠ .slice none 0 0:=by
   intro e
   obtain⟨p,c,e',_⟩:=HO1.out.texts
   rw [e'] at e
   simp only [Value.slice.injEq] at e
   exact h0 (List.length_eq_zero_iff.1 e.2.1)
  obtain⟨g,c,rfl,hg1,hg2,hn,hc,_,hH⟩:=holds_of_ownsRow (zs:=ls ++ ms) (HO1.out:World.ownsRow _ _ _ _ _ _ _) hv
  have hg1':w.heap.size+1≤g:=by simpa using hg1
  have HS:=hZq (Tryz.slices_SortFunc_total encS (fun _ => rfl) idCmp idSWO 115 #[] g 0 c (ls ++ ms).toArray w1 eg (compare_lays g 0 _ w1) hH hg2 (by simp; omega) idTot)
  have hlen:(ls ++ ms).length=ls.length+ms.length:=List.length_append
  simp only [List.size_toArray,hlen] at HS
  have HH:=hZq hH
  rw [hlen] at hn
  clear eg hH hg1 hv h0 hlen
  go_wp2_with fail
  refine HS.out.mono ?_
  rintro e w2 ⟨rfl,nn,os,hw2⟩
  have hDl:Hid (Holds encS w2 g 0 ((ls ++ ms).mergeSort fun x y => !(ltOf idCmp) y x).toArray):=by
   show Holds _ _ _ _ _
   rw [hw2]
   exact sorted_row HH.out hg2 (by simp)
  have HB2:Hid (Below w.heap.size w w2):=by
   show Below _ _ _
   rw [hw2]
   exact sorted_below HB1.out (by omega) (by omega)
  have hg3:Hid (g < w2.heap.size):=by
   show g < _
   rw [hw2]
   simp only [sortWorld,grow,Array.size_append,putRow,mapBlock,Array.size_modify,Sort.ahead]
   omega
  have hsl:((ls ++ ms).mergeSort fun x y => !(ltOf idCmp) y x).length=ls.length+ms.length:=by simp
  obtain⟨d,hd⟩ : ∃ d,d=((ls ++ ms).mergeSort fun x y => !(ltOf idCmp) y x).toArray:=⟨_,rfl⟩
  have hds:d.size=ls.length+ms.length:=by rw [hd]; simp
  have HM:Hid (compactUpTo d d.size=mrg (ls ++ ms)):=by show _=_; rw [hd]; exact sort_compact _
  rw [← hd] at hDl
  have HK:=hZq (Tryz.slices_Compact encS encS_cell eql_S neq_S [] (fun _ => by kernel_rfl) g 0 c d w2 hDl.out (by omega) (by omega))
  have hcl:=compact_len d
  rw [HM.out] at HK hcl
  rw [hds] at HK
  have HT:Hid (∀ q,Texts (putRow encS (Sort.ahead w2 q) g 0 (mrg (ls ++ ms) ++ List.replicate (d.size - (mrg (ls ++ ms)).length) []).toArray) (.slice (some ⟨g,0,none⟩) (mrg (ls ++ ms)).length c) (mrg (ls ++ ms))) :=
   fun q => compact_texts hDl.out hg3.out (by omega) hc hcl
  rw [hds] at HT
  clear hw2 hd hds hsl HM HS hDl hcl HH
  obtain⟨r,hr⟩ : ∃ r,mrg (ls ++ ms)=r:=⟨_,rfl⟩
  rw [hr] at HK HT
  have HR:=hZq hr
  clear hr
  go_wp2_with fail
  refine HK.out.mono ?_
  rintro e w3 ⟨rfl,q,hw3⟩
  have HT3:=HT.out q
  rw [← hw3] at HT3
  have HB3:Hid (Below w.heap.size w w3):=by
   show Below _ _ _
   rw [hw3]
   exact below_putRow HB2.out (by omega)
  have HT3':=hZq HT3
  clear hw3 HT3 HK HT
  go_wp2_with fail
  go_ret
  exact⟨_,rfl,by rw [HR.out]; exact HT3'.out,HB3.out⟩
end
section
open Go.RowKit

theorem diplace_any {w:World} {v:Value} {t:List Row} (hv:Tab w v t) (key:List UInt8) :
  Calls Tryz.prog 168 #[v,.string ⟨key.toArray⟩] w fun e w' => e=.returned (.int .i64 (diPlace t key))∧Below w.heap.size w w':=by
 have HV:=hZq hv
 obtain⟨a,cap,rfl,hm⟩:=hv.open'
 clear hv
 go_enter Tryz.func168,Tryz.ntmps168
 go_wp2_with fail
 go_loopw [5] (fun i wr => ∃ k:Nat,k≤t.length∧i=.int .i64 k∧Hid (Below w.heap.size w wr)∧Hid (plc t key k=diPlace t key)) (fun i _ => (intOf i).toNat)
 case atStart => exact⟨t.length,by omega,rfl,Below.refl _ _,rfl⟩
 case round =>
  obtain⟨k,hk,rfl,HN,HA⟩:=hrel
  rcases Nat.eq_zero_or_pos k with rfl | hpos
  ·have HR:Hid (diPlace t key=0):=by show _=_; rw [← HA.out]; rfl
   go_wp2_with fail
   go_ret
   exact⟨by rw [HR.out]; rfl,HN.out⟩
  ·obtain⟨j,rfl⟩ : ∃ j,k=j+1:=⟨k - 1,by omega⟩
   obtain⟨b,off,rfl,h0,_,_,_,_⟩:=HV.out.row HN.out j (by omega)
   obtain⟨yy,hy⟩ : ∃ yy,(t.getD j Row.zero).c=yy:=⟨_,rfl⟩
   rw [hy] at h0
   have ha:=HA.out
   unfold plc at ha
   rw [hy] at ha
   cases hle:idLess yy key with
   | true =>
    rw [if_pos hle] at ha
    have HR:=hZq ha
    have HLe:=hZq (less_eq yy key (r:=true) (hZq hle))
    clear hle ha hy hpos
    go_wp2_with fail
    refine (HLe.out _).mono ?_
    rintro e w1 ⟨rfl,hb1⟩
    have N1:=hZq (below2' HN.out hb1)
    clear hb1 h0
    go_wp2_with fail
    go_ret
    exact⟨by rw [← HR.out]; rfl,N1.out⟩
   | false =>
    rw [if_neg (by rw [hle]; decide)] at ha
    have HA2:=hZq ha
    have HLe:=hZq (less_eq yy key (r:=false) (hZq hle))
    clear hle ha hy hpos
    go_wp2_with fail
    refine (HLe.out _).mono ?_
    rintro e w1 ⟨rfl,hb1⟩
    have N1:=hZq (below2' HN.out hb1)
    clear hb1 h0
    go_wp2_with fail
    go_roundw
    case rel => exact⟨j,by omega,by go_num,N1,HA2⟩
    case measure => first | (simp [intOf]; done) | (simp [intOf]; omega)

def RowT (w:World) (B:Nat) (u:List (List UInt8)):Prop:=∀ j,j < u.length→w.cell? ⟨B,j,none⟩=some (encS (u.getD j []))∧w.frozen? ⟨B,j,none⟩=false

theorem RowT.set {w:World} {B:Nat} {u:List (List UInt8)} (h:RowT w B u) (j:Nat) (x:List UInt8) (hj:j < u.length):RowT (w.setCell ⟨B,j,none⟩ (encS x)) B (u.set j x):=by
 intro i hi
 have hi':i < u.length:=by simpa using hi
 refine ⟨?_,(World.frozen?_setCell w _ _ _).trans (h i hi').2⟩
 by_cases hij:i=j
 ·subst hij
  rw [World.cell?_setCell_same _ _ _ (h i hj).1]
  simp [List.getD,hj]
 ·rw [World.cell?_setCell_other _ _ _ _ (by simp),(h i hi').1]
  simp [List.getD,show ¬ j=i by omega]

theorem RowT.later {w w':World} {B:Nat} {u:List (List UInt8)} (h:RowT w B u) (hB:B < w.heap.size) (hb:Below w.heap.size w w'):RowT w' B u:=fun j hj =>
 ⟨(hb.cell (p:=⟨B,j,none⟩) hB).trans (h j hj).1,(hb.frozen (p:=⟨B,j,none⟩) hB).trans (h j hj).2⟩

theorem RowT.texts {w:World} {B:Nat} {u:List (List UInt8)} (h:RowT w B u) (hB:B < w.heap.size) (hl:u.length≤4294967296):Texts w (.slice (some ⟨B,0,none⟩) u.length u.length) u :=
 ⟨_,u.length,rfl,Nat.le_refl _,by unfold maxLen; omega,(fun e => by cases e),.inr ⟨B,0,rfl,hB,fun i hi => by rw [Nat.zero_add]; exact (h i hi).1⟩⟩

def ctsAt (t:List Row) (k:Nat):List (List UInt8):=(cts t).take k ++ List.replicate (t.length - k) []

theorem madeTexts (n:Nat):(madeCells (Value.string ⟨#[]⟩).cells (n * 1)).toList=List.replicate n (encS []):=by
 rw [Nat.mul_one]
 exact toList_madeCells_one _ n

theorem wpList_make_texts {w:World} {ops:Array Oper} {rest:List Oper} {o:Oper} {a:Act} {Q:Exit→Act→World→Prop}
  (hg:o.guard=none) (l c:Operand) (hop:o.op=Op.makeSlice 183 l c)
  (L C:Int) (n:Nat) (hl:a.eval l=.int .i64 L) (hc:a.eval c=.int .i64 C) (hL:L=(n:Int)) (hC:C=(n:Int)) (hn:n≤4294967296)
  (hK:∀ w',RowT w' w.heap.size (List.replicate n [])→Below w.heap.size w w'→w.heap.size < w'.heap.size→wpList Tryz.prog ops Q rest (a.put o.dst (.slice (some ⟨w.heap.size,0,none⟩) n n)) w') :
  wpList Tryz.prog ops Q (o :: rest) a w:=by
 obtain⟨i,hi,hz,hsize,hby⟩:=info_parts Tryz.infoStr
 refine wpList_make_full w hg l c _ hop w.heap.size 9 i _ 1 Tryz.underlying183 hi hz hsize .i64 .i64 L C n hl hc hL hC (by rw [hby]; omega) (by unfold maxLen; omega) (Nat.le_refl _) ?_
 intro w' hown hgrow
 refine hK w' (fun j hj => ?_) ((Below.refl _ _).grown hgrow (Nat.le_refl _) (fun k hk => by simp at hk)) (hown.lt w.heap.size rfl).2
 have hj':j < n:=by simpa using hj
 refine ⟨?_,hown.frozenAt j⟩
 rw [hown.cellAt j (by omega),madeTexts]
 simp [List.getD,hj']
end
section
open Go.RowKit Go.ChangeMaps Go.MapKept

def seenData (r:Row):DataW Unit:=.agg [.lit (.string r.c),.lit (.int .i64 r.v.sh),.lit (.int .i64 r.v.pr),.lit (.int .i64 r.v.si),.lit (.string r.v.st)]

def seenElem:Value→Option (DataW Unit × List MemPlace)
 | .agg cs => match cs.toList with
  | [.string c,.int .i64 x,.int .i64 y,.int .i64 z,.string s] => some (seenData ⟨c.data.toList,x,y,z,s.data.toList⟩,[])
  | _ => none
 | _ => none

def firstRow (t:List Row) (x:List UInt8):Row:=if (diGet t x).2=true then ⟨x,(diGet t x).1⟩ else Row.zero

def FirstsAt (w:World) (B:Nat) (t:List Row):Prop :=
 ∃ n,∃ D:DataW Unit,n≤t.length∧w.ownsMap Tryz.prog 9 seenElem B n D ∧
  ∀ x:List UInt8,Maps.has D (.string x)=(diGet t x).2∧D.atKey (.string x) (seenData Row.zero)=seenData (firstRow t x)

theorem FirstsAt.lt {w:World} {B:Nat} {t:List Row} (h:FirstsAt w B t):B < w.heap.size:=by
 obtain⟨_,_,_,h,_⟩:=h
 exact h.lt

theorem FirstsAt.later {w w':World} {B:Nat} {t:List Row} (h:FirstsAt w B t) (hb:Below w.heap.size w w'):FirstsAt w' B t:=by
 have hlt:=h.lt
 obtain⟨n,D,h1,⟨es,clock,h2,h3,h4,h5⟩,h6⟩:=h
 exact⟨n,D,h1,⟨es,clock,(hb.block B hlt).trans h2,h3,h4,h5⟩,h6⟩

theorem diGet_snoc (t:List Row) (r:Row) (x:List UInt8):diGet (t ++ [r]) x=if (diGet t x).2=true then diGet t x else (if r.c=x then (r.v,true) else (Val.zero,false)):=by
 rw [diGet_append]
 rfl

theorem FirstsAt.old {w:World} {B:Nat} {t:List Row} (h:FirstsAt w B t) (r:Row) (hr:(diGet t r.c).2=true):FirstsAt w B (t ++ [r]):=by
 obtain⟨n,D,h1,h2,h3⟩:=h
 have key:∀ x,diGet (t ++ [r]) x=diGet t x:=fun x => by
  rw [diGet_snoc]
  by_cases hx:(diGet t x).2=true
  ·rw [if_pos hx]
  ·rw [if_neg hx]
   have:¬ r.c=x:=fun e => hx (by rw [← e]; exact hr)
   rw [if_neg this]
   exact ((diGet_zero t x).resolve_left hx).symm
 refine ⟨n,D,by simp; omega,h2,fun x => ?_⟩
 unfold firstRow
 rw [key x]
 exact h3 x
end
section
open Go.RowKit

def Chg.zero:Chg:=⟨[],false,Val.zero⟩

def chgVals (r:Chg):List Value:=[.string ⟨r.c.toArray⟩,.bool r.on,.int .i64 r.v.sh,.int .i64 r.v.pr,.int .i64 r.v.si,.string ⟨r.v.st.toArray⟩]

def Cells6 (w:World) (b o:Nat) (r:Chg):Prop :=
 w.cell? ⟨b,o,none⟩=some (.string ⟨r.c.toArray⟩)∧w.cell? ⟨b,o+1,none⟩=some (.bool r.on)∧w.cell? ⟨b,o+2,none⟩=some (.int .i64 r.v.sh)∧w.cell? ⟨b,o+3,none⟩=some (.int .i64 r.v.pr) ∧
  w.cell? ⟨b,o+4,none⟩=some (.int .i64 r.v.si)∧w.cell? ⟨b,o+5,none⟩=some (.string ⟨r.v.st.toArray⟩)

theorem Cells6.later {w w':World} {b o:Nat} {r:Chg} (h:Cells6 w b o r) (hb:Below w.heap.size w w') (hlt:b < w.heap.size):Cells6 w' b o r:=by
 obtain⟨h0,h1,h2,h3,h4,h5⟩:=h
 have k:∀ o,w'.cell? ⟨b,o,none⟩=w.cell? ⟨b,o,none⟩:=fun o => hb.cell (p:=⟨b,o,none⟩) hlt
 exact⟨(k _).trans h0,(k _).trans h1,(k _).trans h2,(k _).trans h3,(k _).trans h4,(k _).trans h5⟩

def Chgs (w:World) (v:Value) (t:List Chg):Prop :=
 ∃ a cap,v=.slice a t.length cap∧t.length≤cap∧cap≤maxLen∧(a=none→cap=0) ∧
  (t=[]∨∃ b off,a=some ⟨b,off,none⟩∧b < w.heap.size∧∀ i,i < t.length→Cells6 w b (off+i * 6) (t.getD i Chg.zero))

theorem Chgs.later {w w':World} {v:Value} {t:List Chg} (h:Chgs w v t) (hb:Below w.heap.size w w'):Chgs w' v t:=by
 obtain⟨a,cap,h1,h2,h3,h4,h5⟩:=h
 refine ⟨a,cap,h1,h2,h3,h4,?_⟩
 rcases h5 with h5 | ⟨b,off,e,hlt,hc⟩
 ·exact .inl h5
 ·exact .inr ⟨b,off,e,Nat.lt_of_lt_of_le hlt hb.size,fun i hi => (hc i hi).later hb hlt⟩

theorem chgs_nil (w:World):Chgs w (.slice none 0 0) []:=⟨none,0,rfl,by simp,by simp,fun _ => rfl,.inl rfl⟩

theorem Chgs.row {w wr:World} {a:Option Addr} {n cap:Nat} {t:List Chg} (h:Chgs w (.slice a n cap) t) (hb:Below w.heap.size w wr) (k:Nat) (hk:k < t.length) :
  ∃ b off,a=some ⟨b,off,none⟩∧Cells6 wr b (off+k * 6) (t.getD k Chg.zero):=by
 obtain⟨a',cap',e,_,_,_,h⟩:=h.later hb
 simp only [Value.slice.injEq] at e
 rcases h with h | ⟨b,off,e',_,hc⟩
 ·rw [h] at hk; simp at hk
 ·exact⟨b,off,e.1.trans e',hc k hk⟩

theorem Chgs.open' {w:World} {v:Value} {t:List Chg} (h:Chgs w v t):∃ a cap,v=.slice a t.length cap∧t.length≤9223372036854775807:=by
 obtain⟨a,cap,e,h1,h2,_⟩:=h
 unfold maxLen at h2
 exact⟨a,cap,e,by omega⟩

def cellsOfC (t:List Chg):List Value:=(t.map chgVals).flatten

theorem cellsOfC_cons (r:Chg) (t:List Chg):cellsOfC (r :: t)=chgVals r ++ cellsOfC t:=rfl
theorem chgVals_len (r:Chg):(chgVals r).length=6:=rfl

theorem cellsOfC_at:∀ (t:List Chg) (i j:Nat),i < t.length→j < 6→(cellsOfC t)[i * 6+j]?=(chgVals (t.getD i Chg.zero))[j]?
 | [],i,j,h,_ => by simp at h
 | r :: t,0,j,_,hj => by
  rw [cellsOfC_cons,Nat.zero_mul,Nat.zero_add,List.getElem?_append_left (by rw [chgVals_len]; exact hj)]
  rfl
 | r :: t,i+1,j,h,hj => by
  rw [cellsOfC_cons,List.getElem?_append_right (by rw [chgVals_len]; omega),chgVals_len,show (i+1) * 6+j - 6=i * 6+j by omega,cellsOfC_at t i j (by simpa using h) hj]
  rfl

theorem cells6_of {w:World} {b o:Nat} {r:Chg} (h:∀ j u,(chgVals r)[j]?=some u→w.cell? ⟨b,o+j,none⟩=some u):Cells6 w b o r :=
 ⟨h 0 _ rfl,h 1 _ rfl,h 2 _ rfl,h 3 _ rfl,h 4 _ rfl,h 5 _ rfl⟩

def OwnC (w:World) (base:Nat) (v:Value) (t:List Chg):Prop:=w.ownsRow base 105 6 v t.length (cellsOfC t)

theorem OwnC.alloc {w:World} {base:Nat} {v:Value} {t:List Chg} (h:OwnC w base v t) (o:Obj):OwnC (w.alloc o) base v t:=World.ownsRow.alloc h o

theorem OwnC.later {w w':World} {base:Nat} {v:Value} {t:List Chg} (h:OwnC w base v t) (hb:Below w.heap.size w w'):OwnC w' base v t:=by
 refine ⟨h.1,?_⟩
 rcases h.2 with h' | ⟨g,cap,cur,h1,h2,h3,h4⟩
 ·exact .inl h'
 ·exact .inr ⟨g,cap,cur,h1,h2,by rw [hb.block g (Array.getElem?_eq_some_iff.1 h3).1]; exact h3,h4⟩

theorem OwnC.chgs {w:World} {base:Nat} {v:Value} {t:List Chg} (h:OwnC w base v t):Chgs w v t:=by
 rcases h with ⟨_,⟨rfl,h0⟩ | ⟨g,cap,cur,rfl,hb,hg,hn,hc,hsz,htk⟩⟩
 ·obtain rfl:t=[]:=List.length_eq_zero_iff.1 h0
  exact chgs_nil w
 ·refine ⟨some ⟨g,0,none⟩,cap,rfl,hn,hc,(fun e => by cases e),.inr ⟨g,0,rfl,(Array.getElem?_eq_some_iff.1 hg).1,fun i hi => ?_⟩⟩
  refine cells6_of fun j u hu => ?_
  have hj:j < 6:=by have:=(List.getElem?_eq_some_iff.1 hu).1; rwa [chgVals_len] at this
  rw [Nat.zero_add,cell_of_row w g (i * 6+j) cur _ (0,0) hg]
  have h1:cur.toList[i * 6+j]?=(cellsOfC t)[i * 6+j]?:=by
   rw [← htk,List.getElem?_take,if_pos (by omega)]
  rw [← hu,← cellsOfC_at t i j hi hj,← h1]
  simp

theorem Tryz.infoChange:(Tryz.prog.info? 105).map (fun i => (i.zero,i.size,i.bytes))=some (some (.agg #[.string ⟨#[]⟩,.bool false,.int .i64 0,.int .i64 0,.int .i64 0,.string ⟨#[]⟩]),6,64):=by kernel_rfl
end
section
open Go.RowKit

def lay {α:Type} (u:List α) (o:Nat) (ms:List α):List α:=u.take o ++ (ms ++ u.drop (o+ms.length))

theorem lay_len {α:Type} {u:List α} {o:Nat} {ms:List α} (h:o+ms.length≤u.length):(lay u o ms).length=u.length:=by
 unfold lay
 simp
 omega

theorem lay_nil {α:Type} (u:List α) (o:Nat):lay u o []=u:=by simp [lay]

theorem lay_cons {α:Type} (u:List α) (o:Nat) (x:α) (r:List α) (h:o < u.length):lay (u.set o x) (o+1) r=lay u o (x :: r):=by
 unfold lay
 have h1:(u.set o x).take (o+1)=u.take o ++ [x]:=by
  rw [List.take_set,List.set_eq_take_append_cons_drop]
  rw [if_pos (by rw [List.length_take]; omega)]
  rw [List.take_take,List.drop_of_length_le (by rw [List.length_take]; omega),show min o (o+1)=o by omega]
 have h2:(u.set o x).drop (o+1+r.length)=u.drop (o+(x :: r).length):=by
  rw [List.drop_set,if_pos (by omega)]
  congr 1
  simp only [List.length_cons]
  omega
 rw [h1,h2]
 simp

theorem own_setCells {e size base g n cap:Nat}:∀ (vs:List Value) (o:Nat) (w:World) (xs:List Value),w.ownsRow base e size (.slice (some ⟨g,0,none⟩) n cap) n xs→o+vs.length≤xs.length →
  (w.setCells g o vs).ownsRow base e size (.slice (some ⟨g,0,none⟩) n cap) n (lay xs o vs)
 | [],o,w,xs,h,_ => by rw [lay_nil]; exact h
 | v :: r,o,w,xs,h,hl => by
  rw [World.setCells,← lay_cons xs o v r (by simp at hl; omega)]
  exact own_setCells r (o+1) _ _ (h.stored o v).1 (by simp at hl ⊢; omega)

theorem below_setCells {B g:Nat} {w0:World} (hB:B≤g):∀ (vs:List Value) (o:Nat) (w:World),Below B w0 w→Below B w0 (w.setCells g o vs)
 | [],_,_,h => h
 | v :: r,o,w,h => by
  rw [World.setCells]
  exact below_setCells hB r (o+1) _ (h.setCell hB v)

theorem cellsOf_take (u:List Row) (o:Nat):(cellsOf u).take (o * 5)=cellsOf (u.take o):=by
 have h:=cellsOf_append (u.take o) (u.drop o)
 rw [List.take_append_drop] at h
 rw [h]
 by_cases ho:o≤u.length
 ·rw [List.take_left' (by rw [cellsOf_len,List.length_take]; omega)]
 ·have e1:u.drop o=[]:=List.drop_of_length_le (by omega)
  have e2:u.take o=u:=List.take_of_length_le (by omega)
  rw [e1,e2,cellsOf_nil,List.append_nil,List.take_of_length_le (by rw [cellsOf_len]; omega)]

theorem cellsOf_drop (u:List Row) (o:Nat):(cellsOf u).drop (o * 5)=cellsOf (u.drop o):=by
 have h:=cellsOf_append (u.take o) (u.drop o)
 rw [List.take_append_drop] at h
 by_cases ho:o≤u.length
 ·rw [h,List.drop_left' (by rw [cellsOf_len,List.length_take]; omega)]
 ·have e1:u.drop o=[]:=List.drop_of_length_le (by omega)
  rw [e1,cellsOf_nil,List.drop_of_length_le (by rw [cellsOf_len]; omega)]

theorem cellsOf_lay (u:List Row) (o:Nat) (ms:List Row):lay (cellsOf u) (o * 5) (cellsOf ms)=cellsOf (lay u o ms):=by
 unfold lay
 rw [cellsOf_append,cellsOf_append,cellsOf_take,cellsOf_len,← Nat.add_mul,cellsOf_drop]

theorem ownR_lay {w:World} {base g n cap:Nat} {u:List Row} (h:OwnR w base (.slice (some ⟨g,0,none⟩) n cap) u) (hn:n=u.length) (o:Nat) (ms:List Row) (ho:o+ms.length≤u.length) :
  OwnR (w.setCells g (o * 5) (cellsOf ms)) base (.slice (some ⟨g,0,none⟩) n cap) (lay u o ms):=by
 subst hn
 unfold OwnR at h ⊢
 rw [lay_len ho,← cellsOf_lay]
 exact own_setCells _ _ _ _ h (by rw [cellsOf_len,cellsOf_len,← Nat.add_mul]; exact Nat.mul_le_mul_right _ ho)

theorem OwnR.head {w:World} {base g n cap:Nat} {u:List Row} (h:OwnR w base (.slice (some ⟨g,0,none⟩) n cap) u):n=u.length∧base≤g∧g < w.heap.size∧n≤cap∧cap≤maxLen∧∃ cur:Array Value,w.heap[g]?=some (.cells cur 73 (0,0))∧cur.size=cap * 5:=by
 rcases h with ⟨_,⟨h',_⟩ | ⟨g',cap',cur,h',hb,hg,hnc,hcm,hcs,_⟩⟩
 ·simp at h'
 ·simp only [Value.slice.injEq,Option.some.injEq,Addr.mk.injEq,and_true] at h'
  obtain⟨rfl,h2,rfl⟩:=h'
  exact⟨h2,hb,(Array.getElem?_eq_some_iff.1 hg).1,by omega,hcm,cur,hg,hcs⟩

theorem OwnR.cellAt {w:World} {base g n cap:Nat} {u:List Row} (h:OwnR w base (.slice (some ⟨g,0,none⟩) n cap) u) (j:Nat) (hj:j < u.length * 5):w.cell? ⟨g,j,none⟩=(cellsOf u)[j]?:=by
 have hn:=h.head.1
 subst hn
 exact World.ownsRow.cellAt h j hj

theorem OwnR.frozenAt {w:World} {base g n cap:Nat} {u:List Row} (h:OwnR w base (.slice (some ⟨g,0,none⟩) n cap) u) (j:Nat):w.frozen? ⟨g,j,none⟩=false:=by
 have hn:=h.head.1
 subst hn
 exact World.ownsRow.frozenAt h j

theorem OwnR.someAt {w:World} {base g n cap:Nat} {u:List Row} (h:OwnR w base (.slice (some ⟨g,0,none⟩) n cap) u) (j:Nat) (hj:j < u.length * 5):(w.cell? ⟨g,j,none⟩).isSome=true:=by
 rw [h.cellAt j hj,List.getElem?_eq_getElem (by rw [cellsOf_len]; exact hj)]
 rfl

theorem ownR_store {w:World} {base g n cap:Nat} {u:List Row} (h:OwnR w base (.slice (some ⟨g,0,none⟩) n cap) u) (i:Nat) (hi:i < u.length) (r:Row) :
  OwnR (((((w.setCell ⟨g,i * 5,none⟩ (.string ⟨r.c.toArray⟩)).setCell ⟨g,i * 5+1,none⟩ (.int .i64 r.v.sh)).setCell ⟨g,i * 5+2,none⟩ (.int .i64 r.v.pr)).setCell ⟨g,i * 5+3,none⟩ (.int .i64 r.v.si)).setCell ⟨g,i * 5+4,none⟩ (.string ⟨r.v.st.toArray⟩)) base (.slice (some ⟨g,0,none⟩) n cap) (u.set i r):=by
 have:=ownR_lay h h.head.1 i [r] (by simp; omega)
 rw [cellsOf_one] at this
 have e:lay u i [r]=u.set i r:=by
  unfold lay
  rw [List.set_eq_take_append_cons_drop,if_pos hi]
  rfl
 rw [e] at this
 exact this

def SrcR (w:World) (ad:Addr) (ms:List Row):Prop:=∀ j u,(cellsOf ms)[j]?=some u→w.cell? (ad.add j)=some u

theorem OwnR.src {w:World} {base g n cap:Nat} {u:List Row} (h:OwnR w base (.slice (some ⟨g,0,none⟩) n cap) u) (o k:Nat) (hk:o+k≤u.length):SrcR w ⟨g,o * 5,none⟩ ((u.drop o).take k):=by
 intro j x hx
 have hj:=(List.getElem?_eq_some_iff.1 hx).1
 rw [cellsOf_len,List.length_take,List.length_drop] at hj
 rw [Addr.add_lit,h.cellAt _ (by omega),← hx]
 rw [← cellsOf_take,← cellsOf_drop,List.getElem?_take,if_pos (by omega),List.getElem?_drop]

theorem run_copy_rows {w:World} (base g n cap:Nat) (u:List Row) (h:OwnR w base (.slice (some ⟨g,0,none⟩) n cap) u) (o dl dc:Nat) (ad:Addr) (sl sc:Nat) (ms:List Row) (hn:ms.length=Nat.min sl dl) (hsrc:SrcR w ad ms) (ho:o+ms.length≤u.length) (ty:TypeId) :
  (Builtin.copy_ #[31,31] ty #[.slice (some ⟨g,o * 5,none⟩) dl dc,.slice (some ad) sl sc]).run Tryz.prog w=.ok (goInt ms.length) (w.setCells g (o * 5) (cellsOf ms)):=by
 obtain⟨i,hi,hz,hsize,hby⟩:=info_parts Tryz.infoSeen
 have hl:=run_loadCells_list (P:=Tryz.prog) w ad (cellsOf ms) hsrc
 rw [cellsOf_len] at hl
 have hst:=run_storeCells_cells (P:=Tryz.prog) g (o * 5) (cellsOf ms) 0 w (fun j hj => by
  rw [cellsOf_len] at hj
  exact h.someAt _ (by omega)) (fun j _ => h.frozenAt _) (cellsOf_single ms)
 rw [Nat.add_zero] at hst
 simp [Builtin.copy_,run_underlying Tryz.underlying31,Builtin.lenOf,Builtin.firstCells,sizeOf,typeInfo,hi,hsize,← hn,hl,hst]

theorem wp_copy_rows {w:World} {o:Oper} {a:Act} {K:Act→World→Prop} {Q:Exit→Act→World→Prop} (d s:Operand)
  (ho:o.op=.call { callee:=.builtin .copy,args:=#[d,s],argTypes:=#[31,31] })
  (base g n cap:Nat) (u:List Row) (h:OwnR w base (.slice (some ⟨g,0,none⟩) n cap) u) (p dl dc:Nat) (ad:Addr) (sl sc:Nat)
  (hd:a.eval d=.slice (some ⟨g,p * 5,none⟩) dl dc) (hs:a.eval s=.slice (some ad) sl sc) (ms:List Row) (hn:ms.length=Nat.min sl dl) (hsrc:SrcR w ad ms) (hp:p+ms.length≤u.length)
  (hK:∀ w',OwnR w' base (.slice (some ⟨g,0,none⟩) n cap) (lay u p ms)→Below g w w'→(∀ x:Addr,x.block ≠ g→w'.cell? x=w.cell? x)→K (a.put o.dst (goInt ms.length)) w'):o.wp Tryz.prog a w K Q:=by
 have hr:=run_copy_rows base g n cap u h p dl dc ad sl sc ms hn hsrc hp o.type
 unfold Oper.wp execOp
 simp only [ho,resolve,invoke,builtin,Sem.run_bind,Sem.run_pure,Result.andThen_ok,List.map_toArray,List.map_cons,List.map_nil,hd,hs,hr]
 refine hK _ (ownR_lay h h.head.1 p ms hp) (below_setCells (Nat.le_refl _) _ _ _ (Below.refl _ _)) (fun x hx => ?_)
 exact World.cell?_setCells_out g _ _ _ _ (fun hb _ => absurd hb hx)

theorem wpList_copy_rows {w:World} {ops:Array Oper} {rest:List Oper} {o:Oper} {a:Act} {Q:Exit→Act→World→Prop} (hgd:o.guard=none) (d s:Operand)
  (ho:o.op=.call { callee:=.builtin .copy,args:=#[d,s],argTypes:=#[31,31] })
  (base g n cap:Nat) (u:List Row) (h:OwnR w base (.slice (some ⟨g,0,none⟩) n cap) u) (p dl dc:Nat) (ad:Addr) (sl sc:Nat)
  (hd:a.eval d=.slice (some ⟨g,p * 5,none⟩) dl dc) (hs:a.eval s=.slice (some ad) sl sc) (ms:List Row) (hn:ms.length=Nat.min sl dl) (hsrc:SrcR w ad ms) (hp:p+ms.length≤u.length)
  (hK:∀ w',OwnR w' base (.slice (some ⟨g,0,none⟩) n cap) (lay u p ms)→Below g w w'→(∀ x:Addr,x.block ≠ g→w'.cell? x=w.cell? x)→wpList Tryz.prog ops Q rest (a.put o.dst (goInt ms.length)) w'):wpList Tryz.prog ops Q (o :: rest) a w :=
 wpList_plain hgd fun _ hK' => wp_copy_rows d s ho base g n cap u h p dl dc ad sl sc hd hs ms hn hsrc hp fun w' h1 h2 h3 => hK' _ _ (hK w' h1 h2 h3)

theorem step_copy_rows {w:World} {ops:Array Oper} {o:Oper} {a:Act} {K:Act→World→Prop} {Q:Exit→Act→World→Prop} {E:Prop} (hgd:o.guard=none) (d s:Operand)
  (ho:o.op=.call { callee:=.builtin .copy,args:=#[d,s],argTypes:=#[31,31] })
  (base g n cap:Nat) (u:List Row) (h:OwnR w base (.slice (some ⟨g,0,none⟩) n cap) u) (p dl dc:Nat) (ad:Addr) (sl sc:Nat)
  (hd:a.eval d=.slice (some ⟨g,p * 5,none⟩) dl dc) (hs:a.eval s=.slice (some ad) sl sc) (ms:List Row) (hn:ms.length=Nat.min sl dl) (hsrc:SrcR w ad ms) (hp:p+ms.length≤u.length)
  (hK:∀ w',OwnR w' base (.slice (some ⟨g,0,none⟩) n cap) (lay u p ms)→Below g w w'→(∀ x:Addr,x.block ≠ g→w'.cell? x=w.cell? x)→K (a.put o.dst (goInt ms.length)) w') :
  if Region.wanted o (yielded ops a.tmps)=true then Oper.wp Tryz.prog o a w K Q else E:=by
 have hw:Region.wanted o (yielded ops a.tmps)=true:=by simp [Region.wanted,hgd]
 rw [if_pos hw]
 exact wp_copy_rows d s ho base g n cap u h p dl dc ad sl sc hd hs ms hn hsrc hp hK

theorem zeroRows (n:Nat):(Builtin.zeroCells (Value.agg #[.string ⟨#[]⟩,.int .i64 0,.int .i64 0,.int .i64 0,.string ⟨#[]⟩]).cells n).toList=cellsOf (List.replicate n Row.zero):=by
 apply List.ext_getElem?
 intro j
 by_cases hj:j < n * 5
 ·have e:j=j / 5 * 5+j % 5:=by omega
  have h1:(cellsOf (List.replicate n Row.zero))[j]?=(rowVals Row.zero)[j % 5]?:=by
   conv => lhs; rw [e]
   rw [cellsOf_at _ _ _ (by rw [List.length_replicate]; omega) (by omega)]
   simp [List.getD,show j / 5 < n by omega]
  rw [h1]
  have h5:j % 5=0∨j % 5=1∨j % 5=2∨j % 5=3∨j % 5=4:=by omega
  simp only [Builtin.zeroCells,Value.cells]
  rcases h5 with h | h | h | h | h <;> simp [hj,h,rowVals,Row.zero,Val.zero]
 ·rw [List.getElem?_eq_none (by simp [Builtin.zeroCells,Value.cells]; omega),List.getElem?_eq_none (by rw [cellsOf_len,List.length_replicate]; omega)]

theorem wpList_append_zero_rows {w:World} {ops:Array Oper} {rest:List Oper} {o:Oper} {a:Act} {Q:Exit→Act→World→Prop} (hgd:o.guard=none) (s x:Operand)
  (ho:o.op=.call { callee:=.builtin .append,args:=#[s,x],argTypes:=#[31,3] })
  (base g n cap:Nat) (u:List Row) (h:OwnR w base (.slice (some ⟨g,0,none⟩) n cap) u) (i k L:Nat) (K:Int) (hs:a.eval s=.slice (some ⟨g,0,none⟩) i cap) (hx:a.eval x=.int .i64 K) (hKk:K=(k:Int)) (hL:L=i+k) (hi:i≤u.length) (h0:0 < k) (hno:cap < i+k) (hsm:i+k≤4294967)
  (hK:∀ w' G,OwnR w' w.heap.size (.slice (some ⟨w.heap.size,0,none⟩) L G) (u.take i ++ List.replicate k Row.zero)→L≤G→G≤9223372036854775807→Below w.heap.size w w'→wpList Tryz.prog ops Q rest (a.put o.dst (.slice (some ⟨w.heap.size,0,none⟩) L G)) w') :
  wpList Tryz.prog ops Q (o :: rest) a w:=by
 obtain⟨i0,hi0,hz0,hzs,hzb⟩:=info_parts Tryz.infoSeen
 subst hKk
 subst hL
 have hold:(Builtin.firstCells i0.size i (.slice (some ⟨g,0,none⟩) i cap)).run Tryz.prog w.drew=.ok (cellsOf (u.take i)).toArray w.drew:=by
  rw [hzs]
  refine run_firstCells_some w.drew 5 i ⟨g,0,none⟩ i cap (cellsOf (u.take i)) (by rw [cellsOf_len,List.length_take]; omega) (fun j v hj => ?_)
  have:=(h.src 0 i (by omega)) j v (by simpa using hj)
  rw [Nat.zero_mul] at this
  exact this
 have hr:=Lib.run_append_grow_zeros w 31 3 o.type 73 i0 _ .i64 .i64 Tryz.underlying31 Tryz.underlying3 hi0 hz0 (some ⟨g,0,none⟩) i cap (cellsOf (u.take i)) hold k h0 (by omega) hno (by omega) (by rw [hzb]; omega) (by rw [hzb]; exact growslice_fits hno (by omega))
 have hG:=grownCap_ge w (i+k) cap 73
 have hGm:=grownCap_le_maxLen w (i+k) cap 73 (by unfold maxLen; omega)
 refine Lib.wpList_append_run w hgd s x _ _ ho _ _ hs hx _ _ hr ?_
 obtain⟨G,hG'⟩ : ∃ G,G=grownCap w (i+k) cap 73:=⟨_,rfl⟩
 rw [← hG'] at hG hGm ⊢
 have hb:Below w.heap.size w (w.drew.alloc (.cells ((cellsOf (u.take i)).toArray ++ Builtin.zeroCells (Value.agg #[.string ⟨#[]⟩,.int .i64 0,.int .i64 0,.int .i64 0,.string ⟨#[]⟩]).cells k ++ Builtin.zeroCells (Value.agg #[.string ⟨#[]⟩,.int .i64 0,.int .i64 0,.int .i64 0,.string ⟨#[]⟩]).cells (G - (i+k))) 73)):=(Below.refl _ w).drew.alloc (Nat.le_refl _) _
 refine hK _ G ?_ hG (by unfold maxLen at hGm; omega) hb
 have hl1:(u.take i ++ List.replicate k Row.zero).length=i+k:=by rw [List.length_append,List.length_take,List.length_replicate]; omega
 have hzl:∀ m,(Builtin.zeroCells (Value.agg #[.string ⟨#[]⟩,.int .i64 0,.int .i64 0,.int .i64 0,.string ⟨#[]⟩]).cells m).size=m * 5:=fun m => by simp [Builtin.zeroCells,Value.cells]
 refine ⟨by rw [cellsOf_len],.inr ⟨w.heap.size,G,_,by rw [hl1],Nat.le_refl _,heap_alloc_new w.drew _,by rw [hl1]; exact hG,hGm,?_,?_⟩⟩
 ·rw [Array.size_append,Array.size_append,hzl,hzl,List.size_toArray,cellsOf_len,List.length_take]
  omega
 ·rw [hl1,Array.toList_append,Array.toList_append,zeroRows,cellsOf_append]
  rw [List.take_append_of_le_length (by rw [List.length_append,cellsOf_len,cellsOf_len,List.length_take,List.length_replicate]; omega)]
  rw [List.take_of_length_le (by rw [List.length_append,cellsOf_len,List.length_take,List.size_toArray.symm,List.size_toArray,cellsOf_len,List.length_replicate]; omega)]

theorem wpList_clear_rows {w:World} {ops:Array Oper} {rest:List Oper} {o:Oper} {a:Act} {Q:Exit→Act→World→Prop} (hgd:o.guard=none) (x:Operand)
  (ho:o.op=.call { callee:=.builtin .clear,args:=#[x],argTypes:=#[31] })
  (base g n cap:Nat) (u:List Row) (h:OwnR w base (.slice (some ⟨g,0,none⟩) n cap) u) (p:Nat) (ad:Option Addr) (m c:Nat) (hx:a.eval x=.slice ad m c) (hpos:0 < m→ad=some ⟨g,p * 5,none⟩) (hm:p+m=u.length)
  (hK:∀ w',OwnR w' base (.slice (some ⟨g,0,none⟩) n cap) (u.take p ++ List.replicate m Row.zero)→Below g w w'→wpList Tryz.prog ops Q rest (a.put o.dst (.tuple #[])) w'):wpList Tryz.prog ops Q (o :: rest) a w:=by
 refine wpList_plain hgd fun K hK' => ?_
 rcases Nat.eq_zero_or_pos m with rfl | hp
 ·have hrun:(Builtin.clear_ #[31] o.type #[.slice ad 0 c]).run Tryz.prog w=.ok (.tuple #[]) w:=by
   cases ad <;> simp [Builtin.clear_,run_underlying Tryz.underlying31]
  unfold Oper.wp
  simp [execOp,ho,resolve,invoke,builtin,hx,hrun,Result.andThen]
  refine hK' _ _ (hK w ?_ (Below.refl _ _))
  rw [List.take_of_length_le (by omega)]
  simpa using h
 ·obtain rfl:=hpos hp
  obtain⟨i0,hi0,hz0,hzs,hzb⟩:=info_parts Tryz.infoSeen
  have hst:=run_storeCells_cells (P:=Tryz.prog) g (p * 5) (cellsOf (List.replicate m Row.zero)) 0 w (fun j hj => by
   rw [cellsOf_len,List.length_replicate] at hj
   exact h.someAt _ (by omega)) (fun j _ => h.frozenAt _) (cellsOf_single _)
  rw [Nat.add_zero,← zeroRows] at hst
  have hrun:(Builtin.clear_ #[31] o.type #[.slice (some ⟨g,p * 5,none⟩) m c]).run Tryz.prog w=.ok (.tuple #[]) (w.setCells g (p * 5) (cellsOf (List.replicate m Row.zero))):=by
   obtain⟨m',rfl⟩ : ∃ m',m=m'+1:=⟨m - 1,by omega⟩
   rw [← zeroRows]
   simp [Builtin.clear_,run_underlying Tryz.underlying31,zeroValue,typeInfo,hi0,hz0,hst]
  unfold Oper.wp
  simp [execOp,ho,resolve,invoke,builtin,hx,hrun,Result.andThen]
  refine hK' _ _ (hK _ ?_ (below_setCells (Nat.le_refl _) _ _ _ (Below.refl _ _)))
  have:=ownR_lay h h.head.1 p (List.replicate m Row.zero) (by rw [List.length_replicate]; omega)
  have e:lay u p (List.replicate m Row.zero)=u.take p ++ List.replicate m Row.zero:=by
   unfold lay
   rw [List.length_replicate,List.drop_of_length_le (by omega),List.append_nil]
  rwa [e] at this
end
section
open Go.RowKit

theorem del_any {w:World} {B:Nat} {key:List UInt8} (hk:w.cell? ⟨B,0,none⟩=some (.string ⟨key.toArray⟩)) (c st:List UInt8) (x y z:Int) :
  Calls Tryz.prog 177 #[.agg #[.string ⟨c.toArray⟩,.int .i64 x,.int .i64 y,.int .i64 z,.string ⟨st.toArray⟩],.pointer (some ⟨B,0,none⟩)] w fun e w' => e=.returned (.bool (c == key))∧Below w.heap.size w w':=by
 have hB:=World.block_lt_of_cell? w _ hk
 simp only at hB
 go_enter Tryz.func177,Tryz.ntmps177
 go_wp2_with fail
 go_ret
 exact⟨rfl,(Below.refl _ _).alloc (Nat.le_refl _) _⟩

theorem del_eq {w:World} {B:Nat} {key:List UInt8} (hk:w.cell? ⟨B,0,none⟩=some (.string ⟨key.toArray⟩)) {c st:List UInt8} {x y z:Int} {r:Bool} (h:Hid ((c == key)=r)) :
  Calls Tryz.prog 177 #[.agg #[.string ⟨c.toArray⟩,.int .i64 x,.int .i64 y,.int .i64 z,.string ⟨st.toArray⟩],.pointer (some ⟨B,0,none⟩)] w fun e w' => e=.returned (.bool r)∧Below w.heap.size w w':=by
 have:=del_any hk c st x y z
 rwa [h.out] at this

def Found (t:List Row) (key:List UInt8) (n:Int):Prop :=
 (∃ k:Nat,k < t.length∧n=k∧(t.getD k Row.zero).c=key∧∀ j,j < k→¬ (t.getD j Row.zero).c=key)∨(n=-1∧∀ j,j < t.length→¬ (t.getD j Row.zero).c=key)

theorem indexf_any {w:World} {v:Value} {t:List Row} (hv:Tab w v t) {B:Nat} {key:List UInt8} (hk:w.cell? ⟨B,0,none⟩=some (.string ⟨key.toArray⟩)) :
  Calls Tryz.prog 184 #[v,.func (.func 177) #[] #[.pointer (some ⟨B,0,none⟩)]] w fun e w' => ∃ n,e=.returned (.int .i64 n)∧Found t key n∧Below w.heap.size w w':=by
 have HV:=hZq hv
 have HK:=hZq hk
 obtain⟨a,cap,rfl,hm⟩:=hv.open'
 clear hv hk
 go_enter Tryz.func184,Tryz.ntmps184
 go_wp2_with fail
 go_loopw [8] (fun i wr => ∃ k:Nat,k≤t.length∧i=.int .i64 k∧Hid (Below w.heap.size w wr)∧Hid (∀ j,j < k→¬ (t.getD j Row.zero).c=key)) (fun i _ => t.length - (intOf i).toNat)
 case atStart => exact⟨0,by omega,rfl,Below.refl _ _,fun j hj => absurd hj (by omega)⟩
 case round =>
  obtain⟨k,hk,rfl,HN,HA⟩:=hrel
  by_cases hlt:k < t.length
  ·obtain⟨b,off,rfl,h0,h1,h2,h3,h4⟩:=HV.out.row HN.out k hlt
   obtain⟨⟨c,⟨x,y,z,st⟩⟩,hr⟩ : ∃ r,t.getD k Row.zero=r:=⟨_,rfl⟩
   rw [hr] at h0 h1 h2 h3 h4
   have HR:=hZq hr
   simp only at h0 h1 h2 h3 h4
   have HKr:=hZq (cell_later HK.out HN.out)
   clear hr
   cases hc:(c == key) with
   | true =>
    have HD:=hZq (del_eq (c:=c) (st:=st) (x:=x) (y:=y) (z:=z) HKr.out (hZq hc))
    have HF:Hid (Found t key k):=.inl ⟨k,hlt,rfl,by rw [HR.out]; simpa using hc,HA.out⟩
    clear hc
    go_wp2_with fail
    refine HD.out.mono ?_
    rintro e w1 ⟨rfl,hb1⟩
    have N1:=hZq (below2' HN.out hb1)
    clear hb1 h0 h1 h2 h3 h4
    go_wp2_with fail
    go_ret
    exact⟨_,rfl,HF.out,N1.out⟩
   | false =>
    have HD:=hZq (del_eq (c:=c) (st:=st) (x:=x) (y:=y) (z:=z) HKr.out (hZq hc))
    have HA2:Hid (∀ j,j < k+1→¬ (t.getD j Row.zero).c=key):=by
     show ∀ j,j < k+1→_
     intro j hj
     by_cases hjk:j=k
     ·rw [hjk,HR.out]; simpa using hc
     ·exact HA.out j (by omega)
    clear hc
    go_wp2_with fail
    refine HD.out.mono ?_
    rintro e w1 ⟨rfl,hb1⟩
    have N1:=hZq (below2' HN.out hb1)
    clear hb1 h0 h1 h2 h3 h4
    go_wp2_with fail
    go_roundw
    case rel => exact⟨k+1,by omega,by go_num,N1,HA2⟩
    case measure => simp [intOf]; omega
  ·obtain rfl:k=t.length:=by omega
   have HF:Hid (Found t key (-1)):=.inr ⟨rfl,HA.out⟩
   go_wp2_with fail
   go_ret
   exact⟨_,rfl,HF.out,HN.out⟩

theorem rest_none {t:List Row} {key:List UInt8} (h:∀ j,j < t.length→¬ (t.getD j Row.zero).c=key):diRest t key=t:=by
 unfold diRest
 rw [List.filter_eq_self]
 intro r hr
 obtain⟨k,hk,rfl⟩:=List.getElem_of_mem hr
 have:=h k hk
 rw [row_get hk]
 simpa using this

theorem rest_next {t:List Row} {key:List UInt8} {j:Nat} (hj:j < t.length) {r:Row} (hr:t.getD j Row.zero=r) :
  (r.c=key→diRest (t.take (j+1)) key=diRest (t.take j) key)∧(¬ r.c=key→diRest (t.take (j+1)) key=diRest (t.take j) key ++ [r]):=by
 unfold diRest
 rw [List.take_succ_eq_append_getElem hj,row_get hj,hr,List.filter_append]
 constructor
 ·intro h
  simp [h]
 ·intro h
  simp [h]

theorem set_take_next {u:List Row} {i:Nat} (hi:i < u.length) (r:Row):(u.set i r).take (i+1)=u.take i ++ [r]:=by
 rw [List.take_set,List.set_eq_take_append_cons_drop]
 rw [if_pos (by rw [List.length_take]; omega)]
 rw [List.take_take,List.drop_of_length_le (by rw [List.length_take]; omega),show min i (i+1)=i by omega]

theorem ownR_cut {w:World} {base g n cap:Nat} {u:List Row} (h:OwnR w base (.slice (some ⟨g,0,none⟩) n cap) u) {i:Nat} (hi:i≤u.length):OwnR w base (.slice (some ⟨g,0,none⟩) i cap) (u.take i):=by
 rcases h with ⟨h1,⟨h',_⟩ | ⟨g',cap',cur,h',hb,hg,hnc,hcm,hcs,htk⟩⟩
 ·simp at h'
 ·simp only [Value.slice.injEq,Option.some.injEq,Addr.mk.injEq,and_true] at h'
  obtain⟨rfl,h2,rfl⟩:=h'
  have hl:(u.take i).length=i:=by rw [List.length_take]; omega
  refine ⟨by rw [cellsOf_len],.inr ⟨g,cap,cur,by rw [hl],hb,hg,by omega,hcm,hcs,?_⟩⟩
  rw [hl,← cellsOf_take,← htk,List.take_take,show min (i * 5) (u.length * 5)=i * 5 by omega]

theorem OwnR.row {w:World} {base g n cap:Nat} {u:List Row} (h:OwnR w base (.slice (some ⟨g,0,none⟩) n cap) u) {k:Nat} (hk:k < u.length):Cells5 w g (k * 5) (u.getD k Row.zero):=by
 refine cells5_of fun j x hx => ?_
 have hj:j < 5:=by have:=(List.getElem?_eq_some_iff.1 hx).1; rwa [rowVals_len] at this
 rw [h.cellAt _ (by omega),cellsOf_at u k j hk hj,hx]

theorem below_store5 {B g:Nat} {w0 w:World} (h:Below B w0 w) (hB:B≤g) (o0 o1 o2 o3 o4:Nat) (a b c d e:Value) :
  Below B w0 (((((w.setCell ⟨g,o0,none⟩ a).setCell ⟨g,o1,none⟩ b).setCell ⟨g,o2,none⟩ c).setCell ⟨g,o3,none⟩ d).setCell ⟨g,o4,none⟩ e) :=
 ((((h.setCell hB a).setCell hB b).setCell hB c).setCell hB d).setCell hB e

def DelAt (t u:List Row) (key:List UInt8) (i j:Nat):Prop:=u.length=t.length∧i < j∧j≤t.length∧u.take i=diRest (t.take j) key∧u.drop j=t.drop j

theorem delAt_start {t:List Row} {key:List UInt8} {k:Nat} (hk:k < t.length) (hc:(t.getD k Row.zero).c=key) (hn:∀ j,j < k→¬ (t.getD j Row.zero).c=key):DelAt t t key k (k+1):=by
 refine ⟨rfl,by omega,hk,?_,rfl⟩
 rw [(rest_next hk rfl).1 hc]
 refine (rest_none fun j hj => ?_).symm
 rw [List.length_take] at hj
 have:(t.take k).getD j Row.zero=t.getD j Row.zero:=by simp [List.getD,show j < k by omega]
 rw [this]
 exact hn j (by omega)

theorem delAt_row {t u:List Row} {key:List UInt8} {i j:Nat} (h:DelAt t u key i j) (hj:j < t.length):u.getD j Row.zero=t.getD j Row.zero:=by
 obtain⟨h1,_,_,_,h5⟩:=h
 have a:=List.drop_eq_getElem_cons (show j < u.length by omega)
 have b:=List.drop_eq_getElem_cons hj
 rw [h5,b] at a
 rw [← row_get hj,← row_get (show j < u.length by omega)]
 exact (List.cons.inj a).1.symm

theorem delAt_skip {t u:List Row} {key:List UInt8} {i j:Nat} (h:DelAt t u key i j) (hj:j < t.length) {r:Row} (hr:t.getD j Row.zero=r) (hc:r.c=key):DelAt t u key i (j+1):=by
 obtain⟨h1,h2,h3,h4,h5⟩:=h
 refine ⟨h1,by omega,hj,by rw [(rest_next hj hr).1 hc,h4],?_⟩
 have e:∀ l:List Row,l.drop (j+1)=(l.drop j).drop 1:=fun l => by rw [List.drop_drop]
 rw [e u,e t,h5]

theorem delAt_keep {t u:List Row} {key:List UInt8} {i j:Nat} (h:DelAt t u key i j) (hj:j < t.length) {r:Row} (hr:t.getD j Row.zero=r) (hc:¬ r.c=key):DelAt t (u.set i r) key (i+1) (j+1):=by
 obtain⟨h1,h2,h3,h4,h5⟩:=h
 refine ⟨by simpa using h1,by omega,hj,by rw [set_take_next (by omega),h4,(rest_next hj hr).2 hc],?_⟩
 have e:∀ l:List Row,l.drop (j+1)=(l.drop j).drop 1:=fun l => by rw [List.drop_drop]
 rw [List.drop_set,if_pos (by omega),e u,e t,h5]

theorem deletef_some {w:World} {base g n cap:Nat} {t:List Row} (ho:OwnR w base (.slice (some ⟨g,0,none⟩) n cap) t) {B:Nat} {key:List UInt8} (hk:w.cell? ⟨B,0,none⟩=some (.string ⟨key.toArray⟩)) (hB:B < base) (hbase:base≤w.heap.size) :
  Calls Tryz.prog 176 #[.slice (some ⟨g,0,none⟩) n cap,.func (.func 177) #[] #[.pointer (some ⟨B,0,none⟩)]] w fun e w' => ∃ v,e=.returned v∧OwnR w' base v (diRest t key)∧Below base w w':=by
 have HO:=hZq ho
 have HK:=hZq hk
 obtain⟨hn,hbg,hgw,hnc,hcm,_⟩:=ho.head
 subst hn
 unfold maxLen at hcm
 have HI:=hZq (indexf_any ho.tab hk)
 clear ho hk
 go_enter Tryz.func176,Tryz.ntmps176
 go_wp2_with fail
 refine HI.out.mono ?_
 rintro e w1 ⟨m,rfl,hf,hb1⟩
 have B1:=hZq hb1
 have O1:=hZq (HO.out.later hb1)
 clear hb1 HI HO
 rcases hf with ⟨k,hklt,rfl,hkc,hkn⟩ | ⟨rfl,hno⟩
 ·have HD:=hZq (delAt_start hklt hkc hkn)
  have t0:((k:Int) == -1)=false:=by simp
  clear hkc hkn
  go_wp2_with fail
  go_loopw [5,6] (fun a b wr => ∃ (i j:Nat) (u:List Row),a=.int .i64 i∧b=.int .i64 j∧Hid (DelAt t u key i j)∧Hid (OwnR wr base (.slice (some ⟨g,0,none⟩) t.length cap) u)∧Hid (Below base w wr)) (fun _ b _ => t.length - (intOf b).toNat)
  case atStart => exact⟨k,k+1,t,rfl,by go_num,HD,O1,B1.out.mono hbase⟩
  case round =>
   clear HD O1 B1 hklt
   obtain⟨i,j,u,rfl,rfl,HD,HO,HN⟩:=hrel
   have hij:=HD.out.2.1
   have hjn:=HD.out.2.2.1
   have hul:=HD.out.1
   by_cases hlt:j < t.length
   ·obtain⟨h0,h1,h2,h3,h4⟩:=HO.out.row (show j < u.length by omega)
    have hgr:=HO.out.head.2.2.1
    have hrow:=delAt_row HD.out hlt
    obtain⟨⟨c,⟨x,y,z,st⟩⟩,hr⟩ : ∃ r,t.getD j Row.zero=r:=⟨_,rfl⟩
    rw [hrow,hr] at h0 h1 h2 h3 h4
    simp only at h0 h1 h2 h3 h4
    have HR:=hZq hr
    have HKr:=hZq ((HN.out.cell (p:=⟨B,0,none⟩) hB).trans HK.out)
    have hbr:base≤wr.heap.size:=by omega
    clear hr hrow
    cases hc:(c == key) with
    | true =>
     have HD2:=hZq (delAt_skip HD.out hlt HR.out (by simpa using hc))
     have hcell:(wr.alloc (.cells #[.string ⟨c.toArray⟩,.int .i64 x,.int .i64 y,.int .i64 z,.string ⟨st.toArray⟩] 73)).cell? ⟨B,0,none⟩=some (.string ⟨key.toArray⟩):=cell_later HKr.out ((Below.refl _ _).alloc (Nat.le_refl _) _)
     have HDel:=hZq (del_eq (c:=c) (st:=st) (x:=x) (y:=y) (z:=z) hcell (hZq hc))
     clear hc hcell
     go_wp2_with fail
     refine HDel.out.mono ?_
     rintro e w2 ⟨rfl,hb2⟩
     have bx:=(box5 hb2).2
     have N2:=hZq (HN.out.trans (bx.mono hbr))
     have O2:=hZq (HO.out.later bx)
     clear hb2 bx h0 h1 h2 h3 h4
     go_wp2_with fail
     go_roundw
     case rel => exact⟨i,j+1,u,rfl,by go_num,HD2,O2,N2⟩
     case measure => simp [intOf]; omega
    | false =>
     have HD2:=hZq (delAt_keep HD.out hlt HR.out (by simpa using hc))
     have hcell:(wr.alloc (.cells #[.string ⟨c.toArray⟩,.int .i64 x,.int .i64 y,.int .i64 z,.string ⟨st.toArray⟩] 73)).cell? ⟨B,0,none⟩=some (.string ⟨key.toArray⟩):=cell_later HKr.out ((Below.refl _ _).alloc (Nat.le_refl _) _)
     have HDel:=hZq (del_eq (c:=c) (st:=st) (x:=x) (y:=y) (z:=z) hcell (hZq hc))
     clear hc hcell
     go_wp2_with fail
     refine HDel.out.mono ?_
     rintro e w2 ⟨rfl,hb2⟩
     obtain⟨⟨k0,k1,k2,k3,k4⟩,bx⟩:=box5 hb2
     have N2:=hZq (HN.out.trans (bx.mono hbr))
     have O2:=hZq (HO.out.later bx)
     have hsz:=bx.size
     obtain⟨s0,s1,s2,s3,s4⟩:=O2.out.row (show i < u.length by omega)
     have f0:=O2.out.frozenAt (i * 5)
     have f1:=O2.out.frozenAt (i * 5+1)
     have f2:=O2.out.frozenAt (i * 5+2)
     have f3:=O2.out.frozenAt (i * 5+3)
     have f4:=O2.out.frozenAt (i * 5+4)
     have O3:=hZq (ownR_store O2.out i (by omega) ⟨c,x,y,z,st⟩)
     have N3:=hZq (below_store5 N2.out hbg (i * 5) (i * 5+1) (i * 5+2) (i * 5+3) (i * 5+4) (.string ⟨c.toArray⟩) (.int .i64 x) (.int .i64 y) (.int .i64 z) (.string ⟨st.toArray⟩))
     clear hb2 bx h0 h1 h2 h3 h4 O2 N2
     go_wp2_with fail
     go_roundw
     case rel => exact⟨i+1,j+1,u.set i ⟨c,x,y,z,st⟩,by go_num,by go_num,HD2,O3,N3⟩
     case measure => simp [intOf]; omega
   ·obtain rfl:j=t.length:=by omega
    have hR:u.take i=diRest t key:=by have:=HD.out.2.2.2.1; rwa [List.take_length] at this
    have HR:=hZq hR
    have hne:¬ cap=i:=by omega
    clear hR
    go_wp2_with (with_reducible refine wpList_clear_rows rfl (.tmp 38) rfl base g t.length cap u HO.out i (some ⟨g,i * 5,none⟩) (t.length - i) (cap - i) rfl (fun _ => rfl) (by omega) ?_)
    intro w3 h3 hb3
    have O3:=hZq (ownR_cut h3 (i:=i) (by rw [List.length_append,List.length_take,List.length_replicate]; omega))
    have N3:=hZq (HN.out.trans (hb3.mono hbg))
    clear h3 hb3
    go_wp2_with fail
    go_ret
    refine ⟨_,rfl,?_,N3.out⟩
    have:=O3.out
    rw [List.take_append_of_le_length (by rw [List.length_take]; omega),List.take_take,Nat.min_self,HR.out] at this
    exact this
 ·have HR:=hZq (rest_none hno)
  clear hno
  go_wp2_with fail
  go_ret
  exact⟨_,rfl,by rw [HR.out]; exact O1.out,B1.out.mono hbase⟩
end
end Go.Proofs.YtmpigdokghngiaaGreat
