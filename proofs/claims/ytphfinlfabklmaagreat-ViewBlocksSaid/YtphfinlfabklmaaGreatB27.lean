/-
 TEXTS OF THE PROOF, one behind the other: ValTake, ValRtake, DigMay, DigRmay, ShelfW, DigPut, DigRput, DigSum, DigTakeR, DigOwn, DigTake, DigRtake, DigGet.
-/
import Derived.Test.YtphfinlfabklmaaGreatB26
import Derived.Test.YtphfinlfabklmaaGreatB25
import Derived.Test.YtphfinlfabklmaaGreatB02
import Derived.Lib.QuietBelow
import Derived.Test.YtphfinlfabklmaaGreatB01

set_option maxHeartbeats 12800000
set_option maxRecDepth 100000

section

namespace Go.Proofs.YtphfinlfabklmaaGreat
open Go.RowKit

def tripleV (a b c:Int) (t:List UInt8) (f er:Nat):Value:=.tuple #[.agg #[.int .i64 a,.int .i64 b,.int .i64 c,.string ⟨t.toArray⟩],.int .i64 f,.int .i64 er]

def valV (v:Val):Value:=.agg #[.int .i64 v.sh,.int .i64 v.pr,.int .i64 v.si,.string ⟨v.st.toArray⟩]

def tripleW (r:Val × Nat × Nat):Value:=.tuple #[valV r.1,.int .i64 r.2.1,.int .i64 r.2.2]

def set4 (w:World) (B:Nat) (a b c d:Value):World:=(((w.setCell ⟨B,0,none⟩ a).setCell ⟨B,1,none⟩ b).setCell ⟨B,2,none⟩ c).setCell ⟨B,3,none⟩ d

theorem four_set (w:World) (B:Nat) (a b c d a' b' c' d':Value) (h0:w.cell? ⟨B,0,none⟩=some a') (h1:w.cell? ⟨B,1,none⟩=some b') (h2:w.cell? ⟨B,2,none⟩=some c') (h3:w.cell? ⟨B,3,none⟩=some d') :
  (set4 w B a b c d).cell? ⟨B,0,none⟩=some a∧(set4 w B a b c d).cell? ⟨B,1,none⟩=some b∧(set4 w B a b c d).cell? ⟨B,2,none⟩=some c∧(set4 w B a b c d).cell? ⟨B,3,none⟩=some d:=by
 unfold set4
 have o1:(w.setCell ⟨B,0,none⟩ a).cell? ⟨B,1,none⟩=some b':=by rw [World.cell?_setCell_other _ _ _ _ (by simp)]; exact h1
 have o2:((w.setCell ⟨B,0,none⟩ a).setCell ⟨B,1,none⟩ b).cell? ⟨B,2,none⟩=some c':=by rw [World.cell?_setCell_other _ _ _ _ (by simp),World.cell?_setCell_other _ _ _ _ (by simp)]; exact h2
 have o3:(((w.setCell ⟨B,0,none⟩ a).setCell ⟨B,1,none⟩ b).setCell ⟨B,2,none⟩ c).cell? ⟨B,3,none⟩=some d':=by rw [World.cell?_setCell_other _ _ _ _ (by simp),World.cell?_setCell_other _ _ _ _ (by simp),World.cell?_setCell_other _ _ _ _ (by simp)]; exact h3
 refine ⟨?_,?_,?_,?_⟩
 ·rw [World.cell?_setCell_other _ _ _ _ (by simp),World.cell?_setCell_other _ _ _ _ (by simp),World.cell?_setCell_other _ _ _ _ (by simp)]
  exact World.cell?_setCell_same _ _ _ h0
 ·rw [World.cell?_setCell_other _ _ _ _ (by simp),World.cell?_setCell_other _ _ _ _ (by simp)]
  exact World.cell?_setCell_same _ _ _ o1
 ·rw [World.cell?_setCell_other _ _ _ _ (by simp)]
  exact World.cell?_setCell_same _ _ _ o2
 ·exact World.cell?_setCell_same _ _ _ o3

theorem set4_below {w w1:World} (h:Below w.heap.size w w1) (B:Nat) (hB:w.heap.size≤B) (a b c d:Value):Below w.heap.size w (set4 w1 B a b c d) :=
 (((h.setCell hB _).setCell hB _).setCell hB _).setCell hB _

end Go.Proofs.YtphfinlfabklmaaGreat

end

section

namespace Go.Proofs.YtphfinlfabklmaaGreat
open Go.RowKit

end Go.Proofs.YtphfinlfabklmaaGreat

end

section

namespace Go.Proofs.YtphfinlfabklmaaGreat
open Go.RowKit

def Box5 (w:World) (b:Nat) (r:Row):Prop :=
 w.cell? ⟨b,0,none⟩=some (.string ⟨r.c.toArray⟩)∧w.cell? ⟨b,1,none⟩=some (.int .i64 r.v.sh)∧w.cell? ⟨b,2,none⟩=some (.int .i64 r.v.pr) ∧
  w.cell? ⟨b,3,none⟩=some (.int .i64 r.v.si)∧w.cell? ⟨b,4,none⟩=some (.string ⟨r.v.st.toArray⟩)

theorem Box5.later {w w':World} {b:Nat} {r:Row} (h:Box5 w b r) (hb:Below w.heap.size w w'):Box5 w' b r:=by
 obtain⟨h0,h1,h2,h3,h4⟩:=h
 exact⟨cell_later h0 hb,cell_later h1 hb,cell_later h2 hb,cell_later h3 hb,cell_later h4 hb⟩

theorem Box5.lt {w:World} {b:Nat} {r:Row} (h:Box5 w b r):b < w.heap.size:=World.block_lt_of_cell? w _ h.1

end Go.Proofs.YtphfinlfabklmaaGreat

end

section

namespace Go.Proofs.YtphfinlfabklmaaGreat
open Go.RowKit

end Go.Proofs.YtphfinlfabklmaaGreat

end

section

namespace Go.Proofs.YtphfinlfabklmaaGreat
open Go.Shelf Go.RowKit

def Tryz.lays166_ren:Go.Shelf.Ren:=⟨fun | 166 => 253 | 240 => 262 | 276 => 265 | n => n,fun | 0 => 0 | 3 => 3 | 4 => 4 | 5 => 5 | 9 => 9 | 20 => 20 | 37 => 229 | 70 => 268 | 72 => 270 | 75 => 272 | 80 => 275 | 164 => 283 | n => n,fun | n => n⟩

end Go.Proofs.YtphfinlfabklmaaGreat

end

section

namespace Go.Proofs.YtphfinlfabklmaaGreat
open Go.RowKit Go.Lib
attribute [local go_sem] ByteArray.mk_append_mk

end Go.Proofs.YtphfinlfabklmaaGreat

end

section

namespace Go.Proofs.YtphfinlfabklmaaGreat
open Go.RowKit
attribute [local go_sem] ByteArray.mk_append_mk

end Go.Proofs.YtphfinlfabklmaaGreat

end

section

namespace Go.Proofs.YtphfinlfabklmaaGreat
open Go.RowKit

end Go.Proofs.YtphfinlfabklmaaGreat

end

section

namespace Go.Proofs.YtphfinlfabklmaaGreat
open Go.RowKit

def rowAgg (r:Row):Value:=.agg #[.string ⟨r.c.toArray⟩,.int .i64 r.v.sh,.int .i64 r.v.pr,.int .i64 r.v.si,.string ⟨r.v.st.toArray⟩]

def tripleR (r:Row × Nat × Nat):Value:=.tuple #[rowAgg r.1,.int .i64 r.2.1,.int .i64 r.2.2]

def set5D (w:World) (B:Nat) (a b c d e:Value):World :=
 ((((w.setCell ⟨B,0,none⟩ a).setCell ⟨B,1,none⟩ b).setCell ⟨B,2,none⟩ c).setCell ⟨B,3,none⟩ d).setCell ⟨B,4,none⟩ e

def Free5 (w:World) (b:Nat):Prop :=
 w.frozen? ⟨b,0,none⟩=false∧w.frozen? ⟨b,1,none⟩=false∧w.frozen? ⟨b,2,none⟩=false∧w.frozen? ⟨b,3,none⟩=false∧w.frozen? ⟨b,4,none⟩=false

theorem Free5.later {w w':World} {b:Nat} (h:Free5 w b) (hb:Below w.heap.size w w') (hlt:b < w.heap.size):Free5 w' b:=by
 obtain⟨h0,h1,h2,h3,h4⟩:=h
 have k:∀ o,w'.frozen? ⟨b,o,none⟩=w.frozen? ⟨b,o,none⟩:=fun o => hb.frozen (p:=⟨b,o,none⟩) hlt
 exact⟨(k _).trans h0,(k _).trans h1,(k _).trans h2,(k _).trans h3,(k _).trans h4⟩

end Go.Proofs.YtphfinlfabklmaaGreat

end

section

namespace Go.Proofs.YtphfinlfabklmaaGreat
open Go.RowKit

def cellsOf (t:List Row):List Value:=(t.map rowVals).flatten

theorem cellsOf_nil:cellsOf []=[]:=rfl
theorem cellsOf_cons (r:Row) (t:List Row):cellsOf (r :: t)=rowVals r ++ cellsOf t:=rfl
theorem cellsOf_append (a b:List Row):cellsOf (a ++ b)=cellsOf a ++ cellsOf b:=by simp [cellsOf]
theorem cellsOf_one (r:Row):cellsOf [r]=rowVals r:=by simp [cellsOf]

theorem rowVals_len (r:Row):(rowVals r).length=5:=rfl

theorem cellsOf_len:∀ t:List Row,(cellsOf t).length=t.length * 5
 | [] => rfl
 | r :: t => by rw [cellsOf_cons,List.length_append,rowVals_len,cellsOf_len t,List.length_cons]; omega

theorem cellsOf_at:∀ (t:List Row) (i j:Nat),i < t.length→j < 5→(cellsOf t)[i * 5+j]?=(rowVals (t.getD i Row.zero))[j]?
 | [],i,j,h,_ => by simp at h
 | r :: t,0,j,_,hj => by
  rw [cellsOf_cons,Nat.zero_mul,Nat.zero_add,List.getElem?_append_left (by rw [rowVals_len]; exact hj)]
  rfl
 | r :: t,i+1,j,h,hj => by
  rw [cellsOf_cons,List.getElem?_append_right (by rw [rowVals_len]; omega),rowVals_len,show (i+1) * 5+j - 5=i * 5+j by omega,cellsOf_at t i j (by simpa using h) hj]
  rfl

theorem cellsOf_single (t:List Row):∀ u ∈ cellsOf t,u.oneCell'=true:=by
 intro u hu
 obtain⟨l,hl,hu⟩:=List.mem_flatten.1 hu
 obtain⟨r,_,rfl⟩:=List.mem_map.1 hl
 simp only [rowVals,List.mem_cons,List.not_mem_nil,or_false] at hu
 rcases hu with rfl | rfl | rfl | rfl | rfl <;> rfl

theorem cells5_of {w:World} {b o:Nat} {r:Row} (h:∀ j u,(rowVals r)[j]?=some u→w.cell? ⟨b,o+j,none⟩=some u):Cells5 w b o r :=
 ⟨h 0 _ rfl,h 1 _ rfl,h 2 _ rfl,h 3 _ rfl,h 4 _ rfl⟩

theorem cells5_get {w:World} {b o:Nat} {r:Row} (h:Cells5 w b o r):∀ j u,(rowVals r)[j]?=some u→w.cell? ⟨b,o+j,none⟩=some u:=by
 obtain⟨h0,h1,h2,h3,h4⟩:=h
 intro j u hu
 match j,hu with
 | 0,hu => rw [← hu]; exact h0
 | 1,hu => rw [← hu]; exact h1
 | 2,hu => rw [← hu]; exact h2
 | 3,hu => rw [← hu]; exact h3
 | 4,hu => rw [← hu]; exact h4
 | n+5,hu => simp [rowVals] at hu

def OwnR (w:World) (base:Nat) (v:Value) (t:List Row):Prop:=w.ownsRow base 45 5 v t.length (cellsOf t)

theorem OwnR.alloc {w:World} {base:Nat} {v:Value} {t:List Row} (h:OwnR w base v t) (o:Obj):OwnR (w.alloc o) base v t:=World.ownsRow.alloc h o

theorem OwnR.later {w w':World} {base:Nat} {v:Value} {t:List Row} (h:OwnR w base v t) (hb:Below w.heap.size w w'):OwnR w' base v t:=by
 refine ⟨h.1,?_⟩
 rcases h.2 with h' | ⟨g,cap,cur,h1,h2,h3,h4⟩
 ·exact .inl h'
 ·exact .inr ⟨g,cap,cur,h1,h2,by rw [hb.block g (Array.getElem?_eq_some_iff.1 h3).1]; exact h3,h4⟩

theorem OwnR.tab {w:World} {base:Nat} {v:Value} {t:List Row} (h:OwnR w base v t):Tab w v t:=by
 rcases h with ⟨_,⟨rfl,h0⟩ | ⟨g,cap,cur,rfl,hb,hg,hn,hc,hsz,htk⟩⟩
 ·obtain rfl:t=[]:=List.length_eq_zero_iff.1 h0
  exact tab_nil w
 ·refine ⟨some ⟨g,0,none⟩,cap,rfl,hn,hc,(fun e => by cases e),.inr ⟨g,0,rfl,(Array.getElem?_eq_some_iff.1 hg).1,fun i hi => ?_⟩⟩
  refine cells5_of fun j u hu => ?_
  have hj:j < 5:=by have:=(List.getElem?_eq_some_iff.1 hu).1; rwa [rowVals_len] at this
  rw [Nat.zero_add,cell_of_row w g (i * 5+j) cur _ (0,0) hg]
  have h1:cur.toList[i * 5+j]?=(cellsOf t)[i * 5+j]?:=by
   rw [← htk,List.getElem?_take,if_pos (by omega)]
  rw [← hu,← cellsOf_at t i j hi hj,← h1]
  simp

end Go.Proofs.YtphfinlfabklmaaGreat

end

section

namespace Go.Proofs.YtphfinlfabklmaaGreat
open Go.RowKit

def Took (r:List Row × Nat × Nat) (w:World) (e:Ending) (w':World):Prop :=
 ∃ v,e=.returned (.tuple #[v,.int .i64 r.2.1,.int .i64 r.2.2])∧Tab w' v r.1∧Below w.heap.size w w'

end Go.Proofs.YtphfinlfabklmaaGreat

end

section

namespace Go.Proofs.YtphfinlfabklmaaGreat
open Go.RowKit

end Go.Proofs.YtphfinlfabklmaaGreat

end

section

namespace Go.Proofs.YtphfinlfabklmaaGreat
open Go.RowKit

theorem diGet_at {t:List Row} {k:Nat} (hk:k < t.length) {c st:List UInt8} {x y z:Int} (hr:t.getD k Row.zero=⟨c,x,y,z,st⟩) (key:List UInt8) :
  (c=key→diGet (t.drop k) key=(⟨x,y,z,st⟩,true))∧(¬ c=key→diGet (t.drop k) key=diGet (t.drop (k+1)) key):=by
 have e:t.drop k=⟨c,x,y,z,st⟩ :: t.drop (k+1):=by rw [List.drop_eq_getElem_cons hk,row_get hk,hr]
 rw [e]
 exact⟨fun h => diGet_hit h _,fun h => diGet_miss h _⟩

theorem four_set_alloc (w:World) (B:Nat) (o:Obj) (a b c d:Value) {a' b' c' d':Value} (h0:w.cell? ⟨B,0,none⟩=some a') (h1:w.cell? ⟨B,1,none⟩=some b') (h2:w.cell? ⟨B,2,none⟩=some c') (h3:w.cell? ⟨B,3,none⟩=some d') :
  ((set4 w B a b c d).alloc o).cell? ⟨B,0,none⟩=some a∧((set4 w B a b c d).alloc o).cell? ⟨B,1,none⟩=some b∧((set4 w B a b c d).alloc o).cell? ⟨B,2,none⟩=some c∧((set4 w B a b c d).alloc o).cell? ⟨B,3,none⟩=some d:=by
 obtain⟨r0,r1,r2,r3⟩:=four_set w B a b c d _ _ _ _ h0 h1 h2 h3
 have hb:Below (set4 w B a b c d).heap.size (set4 w B a b c d) ((set4 w B a b c d).alloc o):=(Below.refl _ _).alloc (Nat.le_refl _) _
 exact⟨cell_later r0 hb,cell_later r1 hb,cell_later r2 hb,cell_later r3 hb⟩

theorem block4 {w w1:World} {a b c d:Value} {t1:TypeId} (hb:Below (w.alloc (.cells #[a,b,c,d] t1)).heap.size (w.alloc (.cells #[a,b,c,d] t1)) w1) :
  (w1.cell? ⟨w.heap.size,0,none⟩=some a∧w1.cell? ⟨w.heap.size,1,none⟩=some b∧w1.cell? ⟨w.heap.size,2,none⟩=some c∧w1.cell? ⟨w.heap.size,3,none⟩=some d) ∧
  (w1.frozen? ⟨w.heap.size,0,none⟩=false∧w1.frozen? ⟨w.heap.size,1,none⟩=false∧w1.frozen? ⟨w.heap.size,2,none⟩=false∧w1.frozen? ⟨w.heap.size,3,none⟩=false)∧Below w.heap.size w w1∧w.heap.size < w1.heap.size:=by
 have hA:∀ o,w1.cell? ⟨w.heap.size,o,none⟩=#[a,b,c,d][o]?:=fun o => by
  rw [hb.cell (p:=⟨w.heap.size,o,none⟩) (by show w.heap.size < _; simp),World.cell?_alloc_at _ _ _ _ rfl]
 have hF:∀ o,w1.frozen? ⟨w.heap.size,o,none⟩=false:=fun o => by
  rw [hb.frozen (p:=⟨w.heap.size,o,none⟩) (by show w.heap.size < _; simp)]
  simp
 have hs:=hb.size
 exact⟨⟨hA 0,hA 1,hA 2,hA 3⟩,⟨hF 0,hF 1,hF 2,hF 3⟩,below2' ((Below.refl _ _).alloc (Nat.le_refl _) _) hb,by simp at hs; omega⟩

def pairG (r:Val × Bool):Value:=.tuple #[valV r.1,.bool r.2]

theorem diget_any {w:World} {v:Value} {t:List Row} (hv:Tab w v t) (key:List UInt8) :
  Calls Tryz.prog 28 #[v,.string ⟨key.toArray⟩] w fun e w' => e=.returned (pairG (diGet t key))∧Below w.heap.size w w':=by
 have HV:=hD hv
 obtain⟨a,cap,rfl,hm⟩:=hv.open'
 clear hv
 go_enter Tryz.func28,Tryz.ntmps28
 go_wp2_with fail
 go_loopw [10] (fun i wr => ∃ k:Nat,k≤t.length∧i=.int .i64 k∧Hid (Below (w.alloc (.cells #[.int .i64 0,.int .i64 0,.int .i64 0,.string ⟨#[]⟩] 30)).heap.size (w.alloc (.cells #[.int .i64 0,.int .i64 0,.int .i64 0,.string ⟨#[]⟩] 30)) wr)∧Hid (diGet t key=diGet (t.drop k) key)) (fun i _ => t.length - (intOf i).toNat)
 case atStart => exact⟨0,by omega,rfl,Below.refl _ _,rfl⟩
 case round =>
  obtain⟨k,hk,rfl,HN,HA⟩:=hrel
  obtain⟨⟨q0,q1,q2,q3⟩,⟨f0,f1,f2,f3⟩,hB,hz⟩:=block4 HN.out
  have HB:=hD hB
  clear hB
  by_cases hlt:k < t.length
  ·obtain⟨b,off,rfl,h0,h1,h2,h3,h4⟩:=HV.out.row HB.out k hlt
   obtain⟨⟨c,⟨x,y,z,st⟩⟩,hr⟩ : ∃ r,t.getD k Row.zero=r:=⟨_,rfl⟩
   rw [hr] at h0 h1 h2 h3 h4
   obtain⟨e1,e2⟩:=diGet_at hlt hr key
   simp only at h0 h1 h2 h3 h4
   by_cases hc:c=key
   ·have HR:Hid (diGet t key=(⟨x,y,z,st⟩,true)):=by show _=_; rw [HA.out]; exact e1 hc
    subst hc
    clear e1 e2 hr
    have Q0:=hD q0
    have Q1:=hD q1
    have Q2:=hD q2
    have Q3:=hD q3
    go_wp2_with fail
    obtain⟨r0,r1,r2,r3⟩:=four_set_alloc wr w.heap.size (.cells #[.string ⟨c.toArray⟩,.int .i64 x,.int .i64 y,.int .i64 z,.string ⟨st.toArray⟩] 45) (.int .i64 x) (.int .i64 y) (.int .i64 z) (.string ⟨st.toArray⟩) Q0.out Q1.out Q2.out Q3.out
    unfold set4 at r0 r1 r2 r3
    exact bodyPost_ret (v:=pairG (⟨x,y,z,st⟩,true)) (by simp [results,Tryz.results28,go_sem,pairG,valV,r0,r1,r2,r3]) rfl ⟨by rw [HR.out],bl_alloc (set4_below HB.out _ (Nat.le_refl _) _ _ _ _) _⟩
   ·have HA2:Hid (diGet t key=diGet (t.drop (k+1)) key):=by show _=_; rw [HA.out]; exact e2 hc
    have t1:(c == key)=false:=by simpa using hc
    have HN2:=hD (HN.out.alloc HN.out.size (.cells #[.string ⟨c.toArray⟩,.int .i64 x,.int .i64 y,.int .i64 z,.string ⟨st.toArray⟩] 45))
    clear e1 e2 hr hc
    go_wp2_with fail
    go_roundw
    case rel => exact⟨k+1,by omega,by go_num,HN2,HA2⟩
    case measure => simp [intOf]; omega
  ·obtain rfl:k=t.length:=by omega
   have HR:Hid (diGet t key=(Val.zero,false)):=by show _=_; rw [HA.out,List.drop_length]; rfl
   have Q0:=hD q0
   have Q1:=hD q1
   have Q2:=hD q2
   have Q3:=hD q3
   go_wp2_with fail
   obtain⟨r0,r1,r2,r3⟩:=four_set wr w.heap.size (.int .i64 0) (.int .i64 0) (.int .i64 0) (.string ⟨#[]⟩) _ _ _ _ Q0.out Q1.out Q2.out Q3.out
   unfold set4 at r0 r1 r2 r3
   exact bodyPost_ret (v:=pairG (Val.zero,false)) (by simp [results,Tryz.results28,go_sem,pairG,valV,Val.zero,r0,r1,r2,r3]) rfl ⟨by rw [HR.out],set4_below HB.out _ (Nat.le_refl _) _ _ _ _⟩

end Go.Proofs.YtphfinlfabklmaaGreat

end
