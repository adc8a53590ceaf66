/-
 TEXTS OF THE PROOF, one behind the other: Seq, Aid, QueRow, DigFrame, OpenS, QueFrame, PacPure, PacFrame, FnMap, CliMap.
-/
import Derived.Test.YtekkofldhhdpgaaGreatD01
import Derived.Laws.IdiomCopy
import Derived.Laws.AppendOwnNone
import Derived.Lib.AppendZerosOnto
import Derived.Lib.Overlaps
import Derived.Deep.RegionLaw
import Derived.Laws.Externs
import Derived.Lib.SliceRun
import Derived.Test.YtekkofldhhdpgaaGreatD08
import Derived.Test.YtekkofldhhdpgaaGreatD09
import Derived.Lib.Hide
import Derived.BigRegion
import Derived.Maps.OwnSet
import Derived.ProofKit
import Derived.OpenShut
import Derived.Lib.SmallJoins
import Derived.Deep.Slices
import Derived.Deep.Fields
import Derived.ChangeSame
import Derived.Test.YtekkofldhhdpgaaGreatProg
import Derived.Test.YtekkofldhhdpgaaGreatRows

set_option maxHeartbeats 12800000
set_option maxRecDepth 100000

section

namespace Go.Proofs.YtekkofldhhdpgaaGreat
open Go.RowKit

def cellsS {α:Type} (vals:α→List Value) (t:List α):List Value:=(t.map vals).flatten

structure RowOK {α:Type} (P:Program) (vals:α→List Value) (sz:Nat) (zero:α) (T S:TypeId) (Z:Value) (bytes:Nat):Prop where
 len:∀ a,(vals a).length=sz
 one:∀ a,∀ u ∈ vals a,u.oneCell'=true
 pos:0 < sz
 small:sz≤100
 under:P.underlying S=some (.slice T)
 info:(P.info? T).map (fun i => (i.zero,i.size,i.bytes))=some (some Z,sz,bytes)
 zvals:Z.cells.toList=vals zero
 fits:bytes≤4096

section pure
variable {α:Type} {vals:α→List Value} {sz:Nat}

theorem cellsS_nil:cellsS vals []=[]:=rfl
theorem cellsS_cons (r:α) (t:List α):cellsS vals (r :: t)=vals r ++ cellsS vals t:=rfl
theorem cellsS_append (a b:List α):cellsS vals (a ++ b)=cellsS vals a ++ cellsS vals b:=by simp [cellsS]
theorem cellsS_one (r:α):cellsS vals [r]=vals r:=by simp [cellsS]

theorem cellsS_len (hl:∀ a,(vals a).length=sz):∀ t:List α,(cellsS vals t).length=t.length * sz
 | [] => by simp [cellsS]
 | r :: t => by rw [cellsS_cons,List.length_append,hl,cellsS_len hl t,List.length_cons,Nat.add_mul,Nat.one_mul,Nat.add_comm]

theorem cellsS_at (hl:∀ a,(vals a).length=sz) (zero:α):∀ (t:List α) (i j:Nat),i < t.length→j < sz→(cellsS vals t)[i * sz+j]?=(vals (t.getD i zero))[j]?
 | [],i,j,h,_ => by simp at h
 | r :: t,0,j,_,hj => by
  rw [cellsS_cons,Nat.zero_mul,Nat.zero_add,List.getElem?_append_left (by rw [hl]; exact hj)]
  rfl
 | r :: t,i+1,j,h,hj => by
  rw [cellsS_cons,List.getElem?_append_right (by rw [hl,Nat.add_mul]; omega),hl,show (i+1) * sz+j - sz=i * sz+j by rw [Nat.add_mul]; omega,cellsS_at hl zero t i j (by simpa using h) hj]
  rfl

theorem cellsS_single (ho:∀ a,∀ u ∈ vals a,u.oneCell'=true) (t:List α):∀ u ∈ cellsS vals t,u.oneCell'=true:=by
 intro u hu
 obtain⟨l,hl,hu⟩:=List.mem_flatten.1 hu
 obtain⟨r,_,rfl⟩:=List.mem_map.1 hl
 exact ho r u hu

theorem cellsS_take (hl:∀ a,(vals a).length=sz) (u:List α) (o:Nat):(cellsS vals u).take (o * sz)=cellsS vals (u.take o):=by
 have h:=cellsS_append (vals:=vals) (u.take o) (u.drop o)
 rw [List.take_append_drop] at h
 rw [h]
 by_cases ho:o≤u.length
 ·rw [List.take_left' (by rw [cellsS_len hl,List.length_take,Nat.min_eq_left ho])]
 ·have e1:u.drop o=[]:=List.drop_of_length_le (by omega)
  have e2:u.take o=u:=List.take_of_length_le (by omega)
  rw [e1,e2,cellsS_nil,List.append_nil,List.take_of_length_le (by rw [cellsS_len hl]; exact Nat.mul_le_mul_right _ (by omega))]

theorem cellsS_drop (hl:∀ a,(vals a).length=sz) (u:List α) (o:Nat):(cellsS vals u).drop (o * sz)=cellsS vals (u.drop o):=by
 have h:=cellsS_append (vals:=vals) (u.take o) (u.drop o)
 rw [List.take_append_drop] at h
 by_cases ho:o≤u.length
 ·rw [h,List.drop_left' (by rw [cellsS_len hl,List.length_take,Nat.min_eq_left ho])]
 ·have e1:u.drop o=[]:=List.drop_of_length_le (by omega)
  rw [e1,cellsS_nil,List.drop_of_length_le (by rw [cellsS_len hl]; exact Nat.mul_le_mul_right _ (by omega))]

def layS {β:Type} (u:List β) (o:Nat) (ms:List β):List β:=u.take o ++ (ms ++ u.drop (o+ms.length))

theorem layS_len {β:Type} {u:List β} {o:Nat} {ms:List β} (h:o+ms.length≤u.length):(layS u o ms).length=u.length:=by
 unfold layS
 simp
 omega

theorem layS_nil {β:Type} (u:List β) (o:Nat):layS u o []=u:=by simp [layS]

theorem layS_cons {β:Type} (u:List β) (o:Nat) (x:β) (r:List β) (h:o < u.length):layS (u.set o x) (o+1) r=layS u o (x :: r):=by
 unfold layS
 have h1:(u.set o x).take (o+1)=u.take o ++ [x]:=by
  rw [List.take_set,List.set_eq_take_append_cons_drop]
  rw [if_pos (by rw [List.length_take]; omega)]
  rw [List.take_take,List.drop_of_length_le (by rw [List.length_take]; omega),show min o (o+1)=o by omega]
 have h2:(u.set o x).drop (o+1+r.length)=u.drop (o+(x :: r).length):=by
  rw [List.drop_set,if_pos (by omega)]
  congr 1
  simp only [List.length_cons]
  omega
 rw [h1,h2]
 simp

theorem layS_one {β:Type} {u:List β} {i:Nat} (hi:i < u.length) (r:β):layS u i [r]=u.set i r:=by
 unfold layS
 rw [List.set_eq_take_append_cons_drop,if_pos hi]
 rfl

theorem cellsS_lay (hl:∀ a,(vals a).length=sz) (u:List α) (o:Nat) (ms:List α):layS (cellsS vals u) (o * sz) (cellsS vals ms)=cellsS vals (layS u o ms):=by
 unfold layS
 rw [cellsS_append,cellsS_append,cellsS_take hl,cellsS_len hl,← Nat.add_mul,cellsS_drop hl]

def putS {β:Type} (t:List β) (i:Nat) (r:β):List β:=t.take i ++ ([r] ++ t.drop i)

end pure

theorem own_setCellsS {e size base g n cap:Nat}:∀ (vs:List Value) (o:Nat) (w:World) (xs:List Value),w.ownsRow base e size (.slice (some ⟨g,0,none⟩) n cap) n xs→o+vs.length≤xs.length →
  (w.setCells g o vs).ownsRow base e size (.slice (some ⟨g,0,none⟩) n cap) n (layS xs o vs)
 | [],o,w,xs,h,_ => by rw [layS_nil]; exact h
 | v :: r,o,w,xs,h,hl => by
  rw [World.setCells,← layS_cons xs o v r (by simp at hl; omega)]
  exact own_setCellsS r (o+1) _ _ (h.stored o v).1 (by simp at hl ⊢; omega)

section rows
variable {α:Type} {P:Program} {vals:α→List Value} {sz:Nat} {zero:α} {T S:TypeId} {Z:Value} {bytes:Nat}

def OwnS (vals:α→List Value) (sz:Nat) (T:TypeId) (w:World) (base:Nat) (v:Value) (t:List α):Prop:=w.ownsRow base T sz v t.length (cellsS vals t)

def OwnCS (sz:Nat) (T:TypeId) (w:World) (base g n cap:Nat) (xs:List Value):Prop:=w.ownsRow base T sz (.slice (some ⟨g,0,none⟩) n cap) n xs

def SrcS (vals:α→List Value) (w:World) (ad:Addr) (ms:List α):Prop:=∀ j u,(cellsS vals ms)[j]?=some u→w.cell? (ad.add j)=some u

def CellsAt (w:World) (b o:Nat) (vs:List Value):Prop:=∀ j u,vs[j]?=some u→w.cell? ⟨b,o+j,none⟩=some u

theorem CellsAt.later {w w':World} {b o:Nat} {vs:List Value} (h:CellsAt w b o vs) (hb:Below w.heap.size w w'):CellsAt w' b o vs:=by
 intro j u hu
 have:=h j u hu
 rw [hb.cell (World.block_lt_of_cell? w _ this)]
 exact this

def RdS (vals:α→List Value) (sz:Nat) (zero:α) (w:World) (v:Value) (l:List α):Prop :=
 ∃ a cap,v=.slice a l.length cap∧l.length≤cap∧cap≤maxLen∧(a=none→cap=0) ∧
  (l=[]∨∃ b off,a=some ⟨b,off,none⟩∧b < w.heap.size∧∀ i,i < l.length→CellsAt w b (off+i * sz) (vals (l.getD i zero)))

theorem RdS.later {w w':World} {v:Value} {l:List α} (h:RdS vals sz zero w v l) (hb:Below w.heap.size w w'):RdS vals sz zero w' v l:=by
 obtain⟨a,cap,h1,h2,h3,h4,h5⟩:=h
 refine ⟨a,cap,h1,h2,h3,h4,?_⟩
 rcases h5 with h5 | ⟨b,off,e,hlt,hc⟩
 ·exact .inl h5
 ·exact .inr ⟨b,off,e,Nat.lt_of_lt_of_le hlt hb.size,fun i hi => (hc i hi).later hb⟩

theorem rdS_nil (w:World):RdS vals sz zero w (.slice none 0 0) []:=⟨none,0,rfl,by simp,by simp,fun _ => rfl,.inl rfl⟩

theorem RdS.row {w wr:World} {a:Option Addr} {n cap:Nat} {l:List α} (h:RdS vals sz zero w (.slice a n cap) l) (hb:Below w.heap.size w wr) (k:Nat) (hk:k < l.length) :
  ∃ b off,a=some ⟨b,off,none⟩∧CellsAt wr b (off+k * sz) (vals (l.getD k zero)):=by
 obtain⟨a',cap',e,_,_,_,h⟩:=h.later hb
 simp only [Value.slice.injEq] at e
 rcases h with h | ⟨b,off,e',_,hc⟩
 ·rw [h] at hk; simp at hk
 ·exact⟨b,off,e.1.trans e',hc k hk⟩

theorem RdS.open' {w:World} {v:Value} {l:List α} (h:RdS vals sz zero w v l):∃ a cap,v=.slice a l.length cap∧l.length≤9223372036854775807:=by
 obtain⟨a,cap,e,h1,h2,_⟩:=h
 unfold maxLen at h2
 exact⟨a,cap,e,by omega⟩

theorem OwnS.alloc {w:World} {base:Nat} {v:Value} {t:List α} (h:OwnS vals sz T w base v t) (o:Obj):OwnS vals sz T (w.alloc o) base v t:=World.ownsRow.alloc h o

theorem OwnS.drew {w:World} {base:Nat} {v:Value} {t:List α} (h:OwnS vals sz T w base v t):OwnS vals sz T w.drew base v t:=World.ownsRow.drew h

theorem ownS_nil (w:World) (base:Nat):OwnS vals sz T w base (.slice none 0 0) []:=World.ownsRow_nil w base _ _

theorem ownS_made (w:World):OwnS vals sz T (w.alloc (.cells #[] T)) w.heap.size (.slice (some ⟨w.heap.size,0,none⟩) 0 0) [] :=
 World.ownsRow_made w #[] 0 (Nat.le_refl _) (by decide) (by simp)

theorem OwnS.later {w w':World} {base:Nat} {v:Value} {t:List α} (h:OwnS vals sz T w base v t) (hb:Below w.heap.size w w'):OwnS vals sz T w' base v t:=by
 refine ⟨h.1,?_⟩
 rcases h.2 with h' | ⟨g,cap,cur,h1,h2,h3,h4⟩
 ·exact .inl h'
 ·exact .inr ⟨g,cap,cur,h1,h2,by rw [hb.block g (Array.getElem?_eq_some_iff.1 h3).1]; exact h3,h4⟩

theorem ownS_low {w:World} {base base':Nat} {v:Value} {t:List α} (h:OwnS vals sz T w base v t) (hb:base'≤base):OwnS vals sz T w base' v t:=by
 refine ⟨h.1,?_⟩
 rcases h.2 with h' | ⟨g,cap,cur,h1,h2,h3⟩
 ·exact .inl h'
 ·exact .inr ⟨g,cap,cur,h1,by omega,h3⟩

theorem ltS {i n j sz:Nat} (hi:i < n) (hj:j < sz):i * sz+j < n * sz:=by
 have:=Nat.mul_le_mul_right sz (show i+1≤n by omega)
 rw [Nat.add_mul,Nat.one_mul] at this
 omega

theorem OwnS.rd (D:RowOK P vals sz zero T S Z bytes) {w:World} {base:Nat} {v:Value} {t:List α} (h:OwnS vals sz T w base v t):RdS vals sz zero w v t:=by
 rcases h with ⟨_,⟨rfl,h0⟩ | ⟨g,cap,cur,rfl,hb,hg,hn,hc,hsz,htk⟩⟩
 ·obtain rfl:t=[]:=List.length_eq_zero_iff.1 h0
  exact rdS_nil w
 ·refine ⟨some ⟨g,0,none⟩,cap,rfl,hn,hc,(fun e => by cases e),.inr ⟨g,0,rfl,(Array.getElem?_eq_some_iff.1 hg).1,fun i hi => ?_⟩⟩
  intro j u hu
  have hj:j < sz:=by have:=(List.getElem?_eq_some_iff.1 hu).1; rwa [D.len] at this
  rw [Nat.zero_add,cell_of_row w g (i * sz+j) cur _ (0,0) hg]
  have h1:cur.toList[i * sz+j]?=(cellsS vals t)[i * sz+j]?:=by
   rw [← htk,List.getElem?_take,if_pos (ltS hi hj)]
  rw [← hu,← cellsS_at D.len zero t i j hi hj,← h1]
  simp

theorem OwnS.head {w:World} {base g n cap:Nat} {u:List α} (h:OwnS vals sz T w base (.slice (some ⟨g,0,none⟩) n cap) u):n=u.length∧base≤g∧g < w.heap.size∧n≤cap∧cap≤maxLen∧∃ cur:Array Value,w.heap[g]?=some (.cells cur T (0,0))∧cur.size=cap * sz:=by
 rcases h with ⟨_,⟨h',_⟩ | ⟨g',cap',cur,h',hb,hg,hnc,hcm,hcs,_⟩⟩
 ·simp at h'
 ·simp only [Value.slice.injEq,Option.some.injEq,Addr.mk.injEq,and_true] at h'
  obtain⟨rfl,h2,rfl⟩:=h'
  exact⟨h2,hb,(Array.getElem?_eq_some_iff.1 hg).1,by omega,hcm,cur,hg,hcs⟩

theorem OwnS.cellAt (_D:RowOK P vals sz zero T S Z bytes) {w:World} {base g n cap:Nat} {u:List α} (h:OwnS vals sz T w base (.slice (some ⟨g,0,none⟩) n cap) u) (j:Nat) (hj:j < u.length * sz):w.cell? ⟨g,j,none⟩=(cellsS vals u)[j]?:=by
 have hn:=h.head.1
 subst hn
 exact World.ownsRow.cellAt h j hj

theorem OwnS.frozenAt {w:World} {base g n cap:Nat} {u:List α} (h:OwnS vals sz T w base (.slice (some ⟨g,0,none⟩) n cap) u) (j:Nat):w.frozen? ⟨g,j,none⟩=false:=by
 have hn:=h.head.1
 subst hn
 exact World.ownsRow.frozenAt h j

theorem OwnS.someAt (D:RowOK P vals sz zero T S Z bytes) {w:World} {base g n cap:Nat} {u:List α} (h:OwnS vals sz T w base (.slice (some ⟨g,0,none⟩) n cap) u) (j:Nat) (hj:j < u.length * sz):(w.cell? ⟨g,j,none⟩).isSome=true:=by
 rw [h.cellAt D j hj,List.getElem?_eq_getElem (by rw [cellsS_len D.len]; exact hj)]
 rfl

theorem OwnS.row (D:RowOK P vals sz zero T S Z bytes) {w:World} {base g n cap:Nat} {u:List α} (h:OwnS vals sz T w base (.slice (some ⟨g,0,none⟩) n cap) u) {k:Nat} (hk:k < u.length):CellsAt w g (k * sz) (vals (u.getD k zero)):=by
 intro j x hx
 have hj:j < sz:=by have:=(List.getElem?_eq_some_iff.1 hx).1; rwa [D.len] at this
 rw [h.cellAt D _ (ltS hk hj),cellsS_at D.len zero u k j hk hj,hx]

theorem ownS_lay (D:RowOK P vals sz zero T S Z bytes) {w:World} {base g n cap:Nat} {u:List α} (h:OwnS vals sz T w base (.slice (some ⟨g,0,none⟩) n cap) u) (o:Nat) (ms:List α) (ho:o+ms.length≤u.length) :
  OwnS vals sz T (w.setCells g (o * sz) (cellsS vals ms)) base (.slice (some ⟨g,0,none⟩) n cap) (layS u o ms):=by
 have hn:=h.head.1
 subst hn
 unfold OwnS at h ⊢
 rw [layS_len ho,← cellsS_lay D.len]
 exact own_setCellsS _ _ _ _ h (by rw [cellsS_len D.len,cellsS_len D.len,← Nat.add_mul]; exact Nat.mul_le_mul_right _ ho)

theorem ownS_set (D:RowOK P vals sz zero T S Z bytes) {w:World} {base g n cap:Nat} {u:List α} (h:OwnS vals sz T w base (.slice (some ⟨g,0,none⟩) n cap) u) {i:Nat} (hi:i < u.length) (r:α) :
  OwnS vals sz T (w.setCells g (i * sz) (vals r)) base (.slice (some ⟨g,0,none⟩) n cap) (u.set i r):=by
 have:=ownS_lay D h i [r] (by simp; omega)
 rwa [cellsS_one,layS_one hi] at this

theorem OwnS.src (D:RowOK P vals sz zero T S Z bytes) {w:World} {base g n cap:Nat} {u:List α} (h:OwnS vals sz T w base (.slice (some ⟨g,0,none⟩) n cap) u) (o k:Nat) (hk:o+k≤u.length):SrcS vals w ⟨g,o * sz,none⟩ ((u.drop o).take k):=by
 intro j x hx
 have hj:=(List.getElem?_eq_some_iff.1 hx).1
 rw [cellsS_len D.len,List.length_take,List.length_drop] at hj
 have h1:min k (u.length - o) * sz≤k * sz:=Nat.mul_le_mul_right _ (Nat.min_le_left _ _)
 have h2:o * sz+k * sz≤u.length * sz:=by rw [← Nat.add_mul]; exact Nat.mul_le_mul_right _ hk
 rw [Addr.add_lit,h.cellAt D _ (by omega),← hx]
 rw [← cellsS_take D.len,← cellsS_drop D.len,List.getElem?_take,if_pos (by omega),List.getElem?_drop]

theorem RdS.src (D:RowOK P vals sz zero T S Z bytes) {w:World} {ad:Addr} {n cap:Nat} {t:List α} (h:RdS vals sz zero w (.slice (some ad) n cap) t):SrcS vals w ad t:=by
 obtain⟨a',cap',e,_,_,_,h⟩:=h
 simp only [Value.slice.injEq] at e
 intro j u hu
 have hj:=(List.getElem?_eq_some_iff.1 hu).1
 rw [cellsS_len D.len] at hj
 rcases h with h | ⟨b,off,e',_,hc⟩
 ·rw [h] at hj; simp at hj
 ·have e2:=e.1.trans e'
  injection e2 with e2
  subst e2
  have hm:j % sz < sz:=Nat.mod_lt _ D.pos
  have hd:j=j / sz * sz+j % sz:=by have:=Nat.div_add_mod j sz; rw [Nat.mul_comm] at this; omega
  have hq:j / sz < t.length:=(Nat.div_lt_iff_lt_mul D.pos).2 hj
  rw [hd,cellsS_at D.len zero t (j / sz) (j % sz) hq hm] at hu
  have:=hc (j / sz) hq (j % sz) u hu
  rw [Addr.add_lit,hd,← Nat.add_assoc]
  exact this

theorem wpList_append_S (D:RowOK P vals sz zero T S Z bytes) {w:World} {ops:Array Oper} {rest:List Oper} {o:Oper} {a:Act} {Q:Exit→Act→World→Prop}
  (hgd:o.guard=none) (s x:Operand) (ho:o.op=.call { callee:=.builtin .append,args:=#[s,x],argTypes:=#[S,S] })
  (base:Nat) (v:Value) (t:List α) (hs:a.eval s=v) (hown:OwnS vals sz T w base v t)
  (ao:Option Addr) (m c:Nat) (ms:List α) (hx:a.eval x=.slice ao m c) (hm:m=ms.length) (hnone:ao=none→c=0∧ms=[])
  (hsome:∀ ad,ao=some ad→SrcS vals w ad ms)
  (hlen:t.length+ms.length < 4294967296) (hbase:base≤w.heap.size)
  (h:∀ v' w',OwnS vals sz T w' base v' (t ++ ms)→Below base w w'→wpList P ops Q rest (a.put o.dst v') w') :
  wpList P ops Q (o :: rest) a w:=by
 obtain⟨i,hi,hz,hsize,hby⟩:=info_parts D.info
 cases ao with
 | none =>
  obtain⟨rfl,rfl⟩:=hnone rfl
  simp only [List.length_nil] at hm
  subst hm
  exact wpList_append_own_none hgd s x S ho base T i sz D.under hi v t.length (cellsS vals t) hs hown hx (h v w (by simpa using hown) (Below.refl _ _))
 | some ad =>
  subst hm
  have hzl:Z.cells.size=sz:=by have:=congrArg List.length D.zvals; rwa [Array.length_toList,D.len] at this
  refine wpList_append_own _ hgd s x S ho base T i _ sz bytes D.under hi hz hsize hby hzl D.pos v t.length (cellsS vals t) hs hown ad ms.length c (cellsS vals ms) hx (cellsS_len D.len ms) (hsome ad rfl) (cellsS_single D.one ms)
   (by unfold maxLen; omega) (Nat.le_trans (Nat.mul_le_mul (show t.length+ms.length≤4294967296 by omega) D.fits) (by decide)) hbase ?_
  intro v' w' hown' hgrow _
  refine h v' w' ?_ ((Below.refl base w).grown hgrow hbase (fun k hk => (World.ownsRow.lt hown k hk).1))
  unfold OwnS
  rw [cellsS_append,List.length_append]
  exact hown'

theorem srcS_new {w:World} {r:α} {cs:Array Value} (hcs:cs.toList=vals r) {e:TypeId} {B:Nat} (hB:B=w.heap.size):∀ ad,some (⟨B,0,none⟩ : Addr)=some ad→SrcS vals (w.alloc (.cells cs e)) ad [r]:=by
 intro ad had j u hu
 subst hB
 obtain rfl:=Option.some.inj had
 rw [cellsS_one,← hcs] at hu
 rw [Addr.add_lit,Nat.zero_add,World.cell?_alloc_at _ _ _ _ rfl,← hu]
 simp

theorem OwnCS.drew {w:World} {base g n cap:Nat} {xs:List Value} (h:OwnCS sz T w base g n cap xs):OwnCS sz T w.drew base g n cap xs:=World.ownsRow.drew h

theorem OwnCS.rows {w:World} {base g cap n:Nat} {t:List α} (h:OwnCS sz T w base g n cap (cellsS vals t)) (hn:n=t.length):OwnS vals sz T w base (.slice (some ⟨g,0,none⟩) n cap) t:=by
 subst hn
 exact h

def LoneS (vals:α→List Value) (T:TypeId) (w:World) (B:Nat) (r:α):Prop:=∃ cs:Array Value,cs.toList=vals r∧w.heap[B]?=some (.cells cs T (0,0))

theorem LoneS.later {w w':World} {B:Nat} {r:α} (h:LoneS vals T w B r) (hb:Below w.heap.size w w'):LoneS vals T w' B r:=by
 obtain⟨cs,h1,h2⟩:=h
 exact⟨cs,h1,(hb.block B (Array.getElem?_eq_some_iff.1 h2).1).trans h2⟩

theorem LoneS.lt {w:World} {B:Nat} {r:α} (h:LoneS vals T w B r):B < w.heap.size:=by
 obtain⟨cs,h1,h2⟩:=h
 exact (Array.getElem?_eq_some_iff.1 h2).1

theorem LoneS.src {w:World} {B:Nat} {r:α} (h:LoneS vals T w B r):SrcS vals w ⟨B,0,none⟩ [r]:=by
 obtain⟨cs,h1,h2⟩:=h
 intro j u hu
 rw [cellsS_one,← h1] at hu
 rw [Addr.add_lit,Nat.zero_add,cell_of_row w B j _ _ (0,0) h2,← hu]
 simp

theorem LoneS.free {w:World} {B:Nat} {r:α} (h:LoneS vals T w B r) (j:Nat):w.frozen? ⟨B,j,none⟩=false:=by
 obtain⟨cs,h1,h2⟩:=h
 exact frozen_of_row w B j _ _ h2

theorem LoneS.shape (hl:∀ a,(vals a).length=sz) {w:World} {B:Nat} {r:α} (h:LoneS vals T w B r):w.shape? B=some (T,sz):=by
 obtain⟨cs,h1,h2⟩:=h
 have hs:cs.size=sz:=by rw [← Array.length_toList,h1,hl]
 simp only [World.shape?,h2,hs]

theorem eqlS_nil_some (D:RowOK P vals sz zero T S Z bytes) (w:World) (x:Addr) (n c:Nat):(binOp .eql S (.slice (some x) n c) (.slice none 0 0)).run P w=.ok (.bool false) w:=by
 rw [Lib.run_eql_slice_nil w _ _ _ _ _ _ _ D.under]
 rfl

theorem eqlS_nil_nil (D:RowOK P vals sz zero T S Z bytes) (w:World) (n c:Nat):(binOp .eql S (.slice none n c) (.slice none 0 0)).run P w=.ok (.bool true) w:=by
 rw [Lib.run_eql_slice_nil w _ _ _ _ _ _ _ D.under]
 rfl

end rows

end Go.Proofs.YtekkofldhhdpgaaGreat

end

section

namespace Go.Proofs.YtekkofldhhdpgaaGreat
open Go.RowKit

theorem below2Z {w a b:World} (h1:Below w.heap.size w a) (h2:Below a.heap.size a b):Below w.heap.size w b:=h1.trans (h2.mono h1.size)

theorem bl_allocZ {w a:World} (h:Below w.heap.size w a) (o:Obj):Below w.heap.size w (a.alloc o):=h.alloc h.size o

theorem bl_newZ (w:World) (o:Obj):Below w.heap.size w (w.alloc o):=(Below.refl _ _).alloc (Nat.le_refl _) o

theorem cellLaterZ {w w':World} {a:Addr} {v:Value} (h:w.cell? a=some v) (hb:Below w.heap.size w w'):w'.cell? a=some v :=
 (hb.cell (World.block_lt_of_cell? w _ h)).trans h

theorem cellsAt_made {w:World} {cs:Array Value} {vs:List Value} (h:cs.toList=vs) (T:TypeId) {B:Nat} (hB:B=w.heap.size):CellsAt (w.alloc (.cells cs T)) B 0 vs:=by
 subst hB
 intro j u hu
 rw [Nat.zero_add,World.cell?_alloc_at _ _ _ _ rfl,← hu,← h]
 simp

theorem freeAt_made {w:World} {cs:Array Value} (T:TypeId):∀ i,(w.alloc (.cells cs T)).frozen? ⟨w.heap.size,i,none⟩=false:=fun i => by simp

end Go.Proofs.YtekkofldhhdpgaaGreat

end

section

namespace Go.Proofs.YtekkofldhhdpgaaGreat
open Go.RowKit

theorem chgOK:RowOK Tryz.prog chgVals 6 Chg.zero 58 45 (.agg #[.string ⟨#[]⟩,.bool false,.int .i64 0,.int .i64 0,.int .i64 0,.string ⟨#[]⟩]) 64 where
 len _:=rfl
 one a u hu:=by
  simp only [chgVals,List.mem_cons,List.not_mem_nil,or_false] at hu
  rcases hu with rfl | rfl | rfl | rfl | rfl | rfl <;> rfl
 pos:=by decide
 small:=by decide
 under:=Tryz.underlying45
 info:=Tryz.infoChange
 zvals:=rfl
 fits:=by decide

theorem Chgs.rdS {w:World} {v:Value} {t:List Chg} (h:Chgs w v t):RdS chgVals 6 Chg.zero w v t:=by
 obtain⟨a,cap,h1,h2,h3,h4,h5⟩:=h
 refine ⟨a,cap,h1,h2,h3,h4,?_⟩
 rcases h5 with h5 | ⟨b,off,e,hlt,hc⟩
 ·exact .inl h5
 ·refine .inr ⟨b,off,e,hlt,fun i hi => ?_⟩
  obtain⟨c0,c1,c2,c3,c4,c5⟩:=hc i hi
  intro j u hu
  unfold chgVals at hu
  match j,hu with
  | 0,hu => simp only [List.getElem?_cons_zero,Option.some.injEq] at hu; subst hu; exact c0
  | 1,hu => simp only [List.getElem?_cons_succ,List.getElem?_cons_zero,Option.some.injEq] at hu; subst hu; exact c1
  | 2,hu => simp only [List.getElem?_cons_succ,List.getElem?_cons_zero,Option.some.injEq] at hu; subst hu; exact c2
  | 3,hu => simp only [List.getElem?_cons_succ,List.getElem?_cons_zero,Option.some.injEq] at hu; subst hu; exact c3
  | 4,hu => simp only [List.getElem?_cons_succ,List.getElem?_cons_zero,Option.some.injEq] at hu; subst hu; exact c4
  | 5,hu => simp only [List.getElem?_cons_succ,List.getElem?_cons_zero,Option.some.injEq] at hu; subst hu; exact c5
  | j+6,hu => simp at hu

theorem chgs_of {w:World} {v:Value} {t:List Chg} (h:RdS chgVals 6 Chg.zero w v t):Chgs w v t:=by
 obtain⟨a,cap,h1,h2,h3,h4,h5⟩:=h
 refine ⟨a,cap,h1,h2,h3,h4,?_⟩
 rcases h5 with h5 | ⟨b,off,e,hlt,hc⟩
 ·exact .inl h5
 ·exact .inr ⟨b,off,e,hlt,fun i hi => cells6_of (hc i hi)⟩

abbrev OwnQ (w:World) (base:Nat) (v:Value) (l:List Chg):Prop:=OwnS chgVals 6 58 w base v l
theorem OwnQ.chgs {w:World} {base:Nat} {v:Value} {l:List Chg} (h:OwnQ w base v l):Chgs w v l:=chgs_of (OwnS.rd chgOK h)

def ShortC (l:List Chg):Prop:=∀ c ∈ l,c.c.length≤4294967296∧c.v.st.length≤4294967296
theorem ShortC.get {l:List Chg} (h:ShortC l) {k:Nat} (hk:k < l.length):(l.getD k Chg.zero).c.length≤4294967296∧(l.getD k Chg.zero).v.st.length≤4294967296:=by
 rw [List.getD_eq_getElem?_getD,List.getElem?_eq_getElem hk]
 exact h _ (List.getElem_mem hk)

theorem contactOf_any (c st:List UInt8) (on:Bool) (a b d:Int) (w:World) :
  Calls Tryz.prog 108 #[.agg #[.string ⟨c.toArray⟩,.bool on,.int .i64 a,.int .i64 b,.int .i64 d,.string ⟨st.toArray⟩]] w fun e w' => e=.returned (.string ⟨c.toArray⟩)∧Below w.heap.size w w':=by
 go_enter Tryz.func108,Tryz.ntmps108
 go_wp2_with fail
 go_ret
 exact⟨rfl,(Below.refl _ _).alloc (Nat.le_refl _) _⟩

theorem quplace_yes {w:World} {v:Value} {l:List Chg} (hv:Chgs w v l) (key:List UInt8) (hh:quHas l key=true) :
  Calls Tryz.prog 107 #[v,.string ⟨key.toArray⟩,.func (.func 108) #[] #[]] w fun e w' => e=.returned (.tuple #[.int .i64 (quAt l key:Nat),.bool true])∧Below w.heap.size w w':=by
 have HH:=hZq hh
 obtain⟨hlt0,hat0⟩:=quAt_is hh
 have HLT:=hZq hlt0
 have HAT:Hid (∀ i,i < quAt l key→¬ (l.getD i Chg.zero).c=key):=hZq fun i hi => quAt_not hi
 have HIS:Hid ((l.getD (quAt l key) Chg.zero).c=key):=hZq hat0
 clear hlt0 hat0
 obtain⟨m,hm0⟩ : ∃ m,quAt l key=m:=⟨_,rfl⟩
 rw [hm0] at HLT HAT HIS ⊢
 clear hm0
 have HV:=hZq hv
 obtain⟨ao,cap,rfl,hmx⟩:=hv.open'
 clear hv hh
 go_enter Tryz.func107,Tryz.ntmps107
 go_wp2_with fail
 go_loopw [12] (fun i wr => ∃ k:Nat,k≤m∧i=.int .i64 k∧Hid (Below w.heap.size w wr)) (fun i _ => m - (intOf i).toNat)
 case atStart => exact⟨0,by omega,rfl,Below.refl _ _⟩
 case round =>
  obtain⟨k,hk,rfl,HN⟩:=hrel
  have hlt:k < l.length:=Nat.lt_of_le_of_lt hk HLT.out
  obtain⟨b,off,rfl,h0,h1,h2,h3,h4,h5⟩:=HV.out.row HN.out k hlt
  obtain⟨⟨c,o,⟨x,y,z,st⟩⟩,hr⟩ : ∃ r,l.getD k Chg.zero=r:=⟨_,rfl⟩
  rw [hr] at h0 h1 h2 h3 h4 h5
  simp only at h0 h1 h2 h3 h4 h5
  by_cases hkm:k=m
  ·subst hkm
   have ce:c=key:=by have:=HIS.out; rw [hr] at this; exact this
   have t1:(c == key)=true:=by rw [beq_iff_eq]; exact ce
   clear ce hr
   go_wp2_with fail
   refine (contactOf_any _ _ _ _ _ _ _).mono ?_
   rintro e w2 ⟨rfl,b2⟩
   have HN2:=hZq ((below2Z HN.out (bl_newZ wr (.cells #[.string ⟨c.toArray⟩,.bool o,.int .i64 x,.int .i64 y,.int .i64 z,.string ⟨st.toArray⟩] 58))).trans (b2.mono (Nat.le_trans HN.out.size (by simp))))
   clear b2
   go_wp2_with fail
   go_ret2
   exact⟨rfl,HN2.out⟩
  ·have hkl:k < m:=by omega
   have ce:¬ c=key:=by have:=HAT.out k hkl; rw [hr] at this; exact this
   have t1:(c == key)=false:=by rw [beq_eq_false_iff_ne]; exact ce
   clear ce hr
   go_wp2_with fail
   refine (contactOf_any _ _ _ _ _ _ _).mono ?_
   rintro e w2 ⟨rfl,b2⟩
   have HN2:=hZq ((below2Z HN.out (bl_newZ wr (.cells #[.string ⟨c.toArray⟩,.bool o,.int .i64 x,.int .i64 y,.int .i64 z,.string ⟨st.toArray⟩] 58))).trans (b2.mono (Nat.le_trans HN.out.size (by simp))))
   clear b2
   go_wp2_with fail
   go_roundw
   case rel => exact⟨k+1,by omega,by go_num,HN2⟩
   case measure => simp [intOf]; omega

theorem quplace_no {w:World} {v:Value} {l:List Chg} (hv:Chgs w v l) (key:List UInt8) (hh:quHas l key=false) :
  Calls Tryz.prog 107 #[v,.string ⟨key.toArray⟩,.func (.func 108) #[] #[]] w fun e w' => e=.returned (.tuple #[.int .i64 0,.bool false])∧Below w.heap.size w w':=by
 have HH:=hZq hh
 have HNO:Hid (∀ i,i < l.length→¬ (l.getD i Chg.zero).c=key):=hZq fun i hi => by
  rw [List.getD_eq_getElem?_getD,List.getElem?_eq_getElem hi]
  exact quHas_no hh _ (List.getElem_mem hi)
 have HV:=hZq hv
 obtain⟨ao,cap,rfl,hmx⟩:=hv.open'
 clear hv hh
 go_enter Tryz.func107,Tryz.ntmps107
 go_wp2_with fail
 go_loopw [12] (fun i wr => ∃ k:Nat,k≤l.length∧i=.int .i64 k∧Hid (Below w.heap.size w wr)) (fun i _ => l.length - (intOf i).toNat)
 case atStart => exact⟨0,by omega,rfl,Below.refl _ _⟩
 case round =>
  obtain⟨k,hk,rfl,HN⟩:=hrel
  by_cases hlt:k < l.length
  ·obtain⟨b,off,rfl,h0,h1,h2,h3,h4,h5⟩:=HV.out.row HN.out k hlt
   obtain⟨⟨c,o,⟨x,y,z,st⟩⟩,hr⟩ : ∃ r,l.getD k Chg.zero=r:=⟨_,rfl⟩
   rw [hr] at h0 h1 h2 h3 h4 h5
   simp only at h0 h1 h2 h3 h4 h5
   have ce:¬ c=key:=by have:=HNO.out k hlt; rw [hr] at this; exact this
   have t1:(c == key)=false:=by rw [beq_eq_false_iff_ne]; exact ce
   clear ce hr
   go_wp2_with fail
   refine (contactOf_any _ _ _ _ _ _ _).mono ?_
   rintro e w2 ⟨rfl,b2⟩
   have HN2:=hZq ((below2Z HN.out (bl_newZ wr (.cells #[.string ⟨c.toArray⟩,.bool o,.int .i64 x,.int .i64 y,.int .i64 z,.string ⟨st.toArray⟩] 58))).trans (b2.mono (Nat.le_trans HN.out.size (by simp))))
   clear b2
   go_wp2_with fail
   go_roundw
   case rel => exact⟨k+1,by omega,by go_num,HN2⟩
   case measure => simp [intOf]; omega
  ·obtain rfl:k=l.length:=by omega
   go_wp2_with fail
   go_ret2
   exact⟨rfl,HN.out⟩

end Go.Proofs.YtekkofldhhdpgaaGreat

end

section

namespace Go.Proofs.YtekkofldhhdpgaaGreat
open Go.ChangeShapes Go.WideShapes Go.ChangeAt Go.RowKit Go.Deep

section
variable {H:Type} {enc:TypeId × Value→H} {w:World} {base:Nat} {spare:Nat→Bool} {held:Bool}

theorem trod_int1 {fuel:Nat} {cs:List Value} {x:DataW H × List MemPlace} (h:DataW.trod enc Tryz.prog w base spare held fuel 3 cs=some x):∃ z,cs=[.int .i64 z]:=by
 obtain⟨z,e,_,_⟩:=DataW.trod_int Tryz.underlying3 h
 exact⟨z,e⟩

theorem trod_text {fuel:Nat} {cs:List Value} {x:DataW H × List MemPlace} (h:DataW.trod enc Tryz.prog w base spare held fuel 9 cs=some x):∃ l:List UInt8,cs=[.string ⟨l.toArray⟩]∧l.length≤maxLen:=by
 obtain⟨s,e,_,ws⟩:=DataW.trod_string Tryz.underlying9 h
 exact⟨s.data.toList,by rw [e],Nat.le_trans (Nat.le_of_eq (Array.length_toList (xs:=s.data))) ws⟩

theorem trod_truth {fuel:Nat} {cs:List Value} {x:DataW H × List MemPlace} (h:DataW.trod enc Tryz.prog w base spare held fuel 4 cs=some x):∃ b,cs=[.bool b]:=by
 obtain⟨b,e,_⟩:=DataW.trod_bool Tryz.underlying4 h
 exact⟨b,e⟩

theorem list4 {α:Type} {l:List α} (h:l.length=4):∃ a b c d,l=[a,b,c,d]:=by
 match l,h with
 | [a,b,c,d],_ => exact⟨a,b,c,d,rfl⟩
theorem list6 {α:Type} {l:List α} (h:l.length=6):∃ a b c d e f,l=[a,b,c,d,e,f]:=by
 match l,h with
 | [a,b,c,d,e,f],_ => exact⟨a,b,c,d,e,f,rfl⟩

theorem trod_value {fuel:Nat} {cs:List Value} {x:DataW H × List MemPlace} (h:DataW.trod enc Tryz.prog w base spare held fuel 26 cs=some x) :
  ∃ v:Val,cs=[.int .i64 v.sh,.int .i64 v.pr,.int .i64 v.si,.string ⟨v.st.toArray⟩]∧v.st.length≤maxLen:=by
 obtain⟨xs,n,_,_,hl,hx,hf⟩:=DataW.trod_struct Tryz.underlying26 h
 have c35:Tryz.prog.cellsOf 26=4:=by kernel_rfl
 have c3:Tryz.prog.cellsOf 3=1:=by kernel_rfl
 have c9:Tryz.prog.cellsOf 9=1:=by kernel_rfl
 rw [c35] at hl
 obtain⟨a,b,c,d,rfl⟩:=list4 hl
 have get:∀ i,i < 4→xs[i]?=some (xs.getD i (.nil,[])):=fun i hi => by
  have:i < xs.length:=by rw [hx]; exact hi
  simp [List.getD,List.getElem?_eq_getElem this]
 have f0:DataW.trod enc Tryz.prog w base spare held n 3 (([a,b,c,d].drop 0).take (Tryz.prog.cellsOf 3))=some (xs.getD 0 (.nil,[])):=(hf 0 _ rfl).trans (get 0 (by omega))
 have f1:DataW.trod enc Tryz.prog w base spare held n 3 (([a,b,c,d].drop 1).take (Tryz.prog.cellsOf 3))=some (xs.getD 1 (.nil,[])):=(hf 1 _ rfl).trans (get 1 (by omega))
 have f2:DataW.trod enc Tryz.prog w base spare held n 3 (([a,b,c,d].drop 2).take (Tryz.prog.cellsOf 3))=some (xs.getD 2 (.nil,[])):=(hf 2 _ rfl).trans (get 2 (by omega))
 have f3:DataW.trod enc Tryz.prog w base spare held n 9 (([a,b,c,d].drop 3).take (Tryz.prog.cellsOf 9))=some (xs.getD 3 (.nil,[])):=(hf 3 _ rfl).trans (get 3 (by omega))
 rw [c3] at f0 f1 f2
 rw [c9] at f3
 obtain⟨z0,e0⟩:=trod_int1 f0
 obtain⟨z1,e1⟩:=trod_int1 f1
 obtain⟨z2,e2⟩:=trod_int1 f2
 obtain⟨l,e3,w3⟩:=trod_text f3
 simp at e0 e1 e2 e3
 subst e0 e1 e2 e3
 exact⟨⟨z0,z1,z2,l⟩,rfl,w3⟩

theorem trod_chg {fuel:Nat} {cs:List Value} {x:DataW H × List MemPlace} (h:DataW.trod enc Tryz.prog w base spare held fuel 58 cs=some x) :
  ∃ c:Chg,cs=[.string ⟨c.c.toArray⟩,.bool c.on,.int .i64 c.v.sh,.int .i64 c.v.pr,.int .i64 c.v.si,.string ⟨c.v.st.toArray⟩]∧c.c.length≤maxLen∧c.v.st.length≤maxLen:=by
 obtain⟨xs,n,_,_,hl,hx,hf⟩:=DataW.trod_struct Tryz.underlying58 h
 have c37:Tryz.prog.cellsOf 58=6:=by kernel_rfl
 have c35:Tryz.prog.cellsOf 26=4:=by kernel_rfl
 have c9:Tryz.prog.cellsOf 9=1:=by kernel_rfl
 have c4:Tryz.prog.cellsOf 4=1:=by kernel_rfl
 rw [c37] at hl
 obtain⟨a,b,c,d,e,f,rfl⟩:=list6 hl
 have get:∀ i,i < 3→xs[i]?=some (xs.getD i (.nil,[])):=fun i hi => by
  have:i < xs.length:=by rw [hx]; exact hi
  simp [List.getD,List.getElem?_eq_getElem this]
 have f0:DataW.trod enc Tryz.prog w base spare held n 9 (([a,b,c,d,e,f].drop 0).take (Tryz.prog.cellsOf 9))=some (xs.getD 0 (.nil,[])):=(hf 0 _ rfl).trans (get 0 (by omega))
 have f1:DataW.trod enc Tryz.prog w base spare held n 4 (([a,b,c,d,e,f].drop 1).take (Tryz.prog.cellsOf 4))=some (xs.getD 1 (.nil,[])):=(hf 1 _ rfl).trans (get 1 (by omega))
 have f2:DataW.trod enc Tryz.prog w base spare held n 26 (([a,b,c,d,e,f].drop 2).take (Tryz.prog.cellsOf 26))=some (xs.getD 2 (.nil,[])):=(hf 2 _ rfl).trans (get 2 (by omega))
 rw [c9] at f0
 rw [c4] at f1
 rw [c35] at f2
 obtain⟨l,e0,w0⟩:=trod_text f0
 obtain⟨o,e5⟩:=trod_truth f1
 obtain⟨v,e1,w1⟩:=trod_value f2
 simp at e0 e1 e5
 obtain⟨e1,e2,e3,e4⟩:=e1
 subst e0 e1 e2 e3 e4 e5
 exact⟨⟨l,o,v⟩,rfl,w0,w1⟩

end

end Go.Proofs.YtekkofldhhdpgaaGreat

end

section

namespace Go.Proofs.YtekkofldhhdpgaaGreat
open Go.ChangeShapes Go.WideShapes Go.ChangeAt Go.RowKit Go.Deep

theorem choose_S {α:Type} (zero:α) {n:Nat} {Q:Nat→α→Prop} (h:∀ i,i < n→∃ r,Q i r):∃ t:List α,t.length=n∧∀ i,i < n→Q i (t.getD i zero):=by
 induction n with
 | zero => exact⟨[],rfl,fun i hi => absurd hi (by omega)⟩
 | succ n ih =>
  obtain⟨t,hl,ht⟩:=ih fun i hi => h i (by omega)
  obtain⟨r,hr⟩:=h n (by omega)
  refine ⟨t ++ [r],by simp [hl],fun i hi => ?_⟩
  by_cases hin:i < n
  ·have:=ht i hin
   simp only [List.getD] at this ⊢
   rwa [List.getElem?_append_left (by omega)]
  ·obtain rfl:i=n:=by omega
   simp only [List.getD]
   rw [List.getElem?_append_right (by omega),hl]
   simpa using hr

theorem open_rdS {α:Type} {P:Program} {vals:α→List Value} {sz:Nat} {zero:α} {T S:TypeId} {Z:Value} {bytes:Nat} (D:RowOK P vals sz zero T S Z bytes) (hcells:P.cellsOf T=sz)
  {H:Type} {enc:TypeId × Value→H} {w:World} {base:Nat} {spare:Nat→Bool} {held:Bool} {ok:α→Prop}
  (helem:∀ fuel cs x,DataW.trod enc P w base spare held fuel T cs=some x→∃ r,cs=vals r∧ok r)
  {r:Reach} {b0:Nat} {v:Value} {d:DataW H} {p:List MemPlace} (hv:Value.okWide P w r b0 S v) (h:DataW.Trod enc P w base spare held S v d p) :
  ∃ t:List α,RdS vals sz zero w v t∧∀ r ∈ t,ok r:=by
 obtain⟨a,len,cap,rfl⟩:=okWide_slice D.under hv
 obtain⟨fuel,hf⟩:=h
 rcases open_slice D.under hf with ⟨hcs,_⟩ | ⟨x,l,c,m,n,D',Pl,hcs,_,hl,hm,hmm,_,hi⟩
 ·simp [Value.cells] at hcs
  obtain⟨rfl,rfl,rfl⟩:=hcs
  exact⟨[],rdS_nil w,by simp⟩
 ·simp [Value.cells] at hcs
  obtain⟨rfl,rfl,rfl⟩:=hcs
  have hlm:len≤m:=by rw [hmm]; split <;> omega
  rw [hcells] at hi
  obtain⟨t,htl,ht⟩:=choose_S zero (n:=len) (Q:=fun i r => (∀ j u,(vals r)[j]?=some u→w.cell? ((x.add (i * sz)).add j)=some u)∧ok r) (fun i hil => by
   obtain⟨cs',hc,htr⟩:=hi i (by omega)
   obtain⟨_,hcl,hat⟩:=World.cells?_some hc
   obtain⟨r,rfl,w1⟩:=helem _ _ _ htr
   refine ⟨r,fun j u hu => ?_,w1⟩
   have hj:j < sz:=by have:=(List.getElem?_eq_some_iff.1 hu).1; rwa [D.len] at this
   rw [hat j hj,hu])
  refine ⟨t,⟨some x,cap,by rw [htl],by omega,by omega,(fun e => by cases e),?_⟩,fun r hr => ?_⟩
  ·by_cases h0:len=0
   ·exact .inl (List.length_eq_zero_iff.1 (by omega))
   ·obtain⟨b,off,spot⟩:=x
    have hne:0 < (vals (t.getD 0 zero)).length:=by rw [D.len]; exact D.pos
    have hc:=(ht 0 (by omega)).1 0 _ (List.getElem?_eq_getElem hne)
    have hspot:spot=none:=by simpa [Addr.add] using World.cell?_spot hc
    subst hspot
    refine .inr ⟨b,off,rfl,?_,fun i hil => fun j u hu => ?_⟩
    ·have:=World.block_lt_of_cell? w _ hc
     simpa [Addr.add] using this
    ·have:=(ht i (by omega)).1 j u hu
     rwa [Addr.add_lit,Addr.add_lit] at this
  ·obtain⟨i,hil,rfl⟩:=List.getElem_of_mem hr
   have:=(ht i (by omega)).2
   rwa [List.getD_eq_getElem?_getD,List.getElem?_eq_getElem hil] at this

end Go.Proofs.YtekkofldhhdpgaaGreat

end

section

namespace Go.Proofs.YtekkofldhhdpgaaGreat
open Go.ChangeShapes Go.WideShapes Go.ChangeAt Go.RowKit Go.Deep

section
variable {H:Type} {enc:TypeId × Value→H} {w:World} {base:Nat} {spare:Nat→Bool} {held:Bool}

def cFit (c:Chg):Prop:=c.c.length≤maxLen∧c.v.st.length≤maxLen

theorem trod_chgQ (fuel:Nat) (cs:List Value) (x:DataW H × List MemPlace) (h:DataW.trod enc Tryz.prog w base spare held fuel 58 cs=some x):∃ c:Chg,cs=chgVals c∧cFit c:=by
 obtain⟨c,hc,w1,w2⟩:=trod_chg h
 exact⟨c,hc,w1,w2⟩

theorem open_chgs {r:Reach} {b0:Nat} {v:Value} {d:DataW H} {p:List MemPlace} (hv:Value.okWide Tryz.prog w r b0 45 v) (h:DataW.Trod enc Tryz.prog w base spare held 45 v d p) :
  ∃ l:List Chg,Chgs w v l:=by
 obtain⟨t,ht,_⟩:=open_rdS (ok:=cFit) chgOK (by kernel_rfl) trod_chgQ hv h
 exact⟨t,chgs_of ht⟩

def chg2Agg (a b:Chg):Value:=.agg #[.string ⟨a.c.toArray⟩,.bool a.on,.int .i64 a.v.sh,.int .i64 a.v.pr,.int .i64 a.v.si,.string ⟨a.v.st.toArray⟩,.string ⟨b.c.toArray⟩,.bool b.on,.int .i64 b.v.sh,.int .i64 b.v.pr,.int .i64 b.v.si,.string ⟨b.v.st.toArray⟩]

end

end Go.Proofs.YtekkofldhhdpgaaGreat

end

section

namespace Go.Proofs.YtekkofldhhdpgaaGreat

structure Cfg where
 room:Int
 burst:Int
 rate:Int
 per:Int

structure Bkt where
 tok:Int
 at':Int

def pcMay (c:Cfg):Bool:=decide (1≤c.room) && (decide (c.room≤16) && (decide (1≤c.burst) && (decide (c.burst≤64) && (decide (1≤c.rate) && (decide (c.rate≤16) && (decide (1≤c.per) && decide (c.per≤1000)))))))
def pcTime (n:Int):Bool:=decide (0≤n) && decide (n≤1099511627776)
def pcOne (c:Cfg) (b:Bkt):Bool:=pcMay c && (decide (0≤b.tok) && (decide (b.tok≤c.burst) && pcTime b.at'))

def pcNew (c:Cfg) (now:Int):Bkt × Nat:=if (pcMay c && pcTime now)=true then (⟨c.burst,now⟩,0) else (⟨0,0⟩,1)

def pcLev (c:Cfg) (b:Bkt) (now:Int):Int:=if now≤b.at' then b.tok else min c.burst (b.tok+(now - b.at') * c.rate)

def pcLevel (c:Cfg) (b:Bkt) (now:Int):Int:=if (pcOne c b && pcTime now)=true then pcLev c b now else 0

def pcTake (c:Cfg) (b:Bkt) (now:Int):Bkt × Bool :=
 if (pcOne c b && pcTime now)=true then
  (if pcLev c b now=0 then (⟨0,max now b.at'⟩,false) else (⟨pcLev c b now - 1,max now b.at'⟩,true))
 else (b,false)

def pcWait (c:Cfg) (b:Bkt) (now:Int):Int:=if (pcOne c b && pcTime now)=true then (if 1≤pcLev c b now then 0 else 1) else 0

theorem pcMay_iff {c:Cfg}:pcMay c=true ↔ 1≤c.room∧c.room≤16∧1≤c.burst∧c.burst≤64∧1≤c.rate∧c.rate≤16∧1≤c.per∧c.per≤1000:=by
 unfold pcMay; simp only [Bool.and_eq_true,decide_eq_true_eq]

theorem pcTime_iff {n:Int}:pcTime n=true ↔ 0≤n∧n≤1099511627776:=by
 unfold pcTime; simp only [Bool.and_eq_true,decide_eq_true_eq]

theorem pcOne_iff {c:Cfg} {b:Bkt}:pcOne c b=true ↔ pcMay c=true∧0≤b.tok∧b.tok≤c.burst∧0≤b.at'∧b.at'≤1099511627776:=by
 unfold pcOne; simp only [Bool.and_eq_true,decide_eq_true_eq,pcTime_iff]

theorem mul_ge {a r:Int} (ha:1≤a) (hr:1≤r):a≤a * r∧r≤a * r:=by
 have h1:a * 1≤a * r:=Int.mul_le_mul_of_nonneg_left hr (by omega)
 have h2:1 * r≤a * r:=Int.mul_le_mul_of_nonneg_right ha (by omega)
 omega

theorem pcLev_ge {c:Cfg} {b:Bkt} {now:Int} (h:pcOne c b=true):0≤pcLev c b now∧pcLev c b now≤c.burst∧min c.burst b.tok≤pcLev c b now:=by
 obtain⟨hm,h1,h2,h3,h4⟩:=pcOne_iff.1 h
 obtain⟨_,_,m1,m2,m3,m4,_,_⟩:=pcMay_iff.1 hm
 unfold pcLev
 split
 ·omega
 ·next hn =>
  obtain⟨g1,g2⟩:=mul_ge (a:=now - b.at') (r:=c.rate) (by omega) m3
  omega

theorem pcTake_in {c:Cfg} {b:Bkt} {now:Int} (h:pcOne c b=true) (hn:pcTime now=true) :
  pcTake c b now=if pcLev c b now=0 then (⟨0,max now b.at'⟩,false) else (⟨pcLev c b now - 1,max now b.at'⟩,true):=by
 unfold pcTake
 rw [if_pos (by rw [h,hn]; rfl)]

structure RateOK (c:Cfg) (b:Bkt) (at':List Int):Prop where
 left:∀ i (hi:i < at'.length),((at'.length - i:Nat):Int)+b.tok≤c.burst+c.rate * (b.at' - at'[i])
 all:∀ i k (hk:k < at'.length) (hik:i≤k),((k - i+1:Nat):Int)≤c.burst+c.rate * (at'[k] - at'[i]'(by omega))

end Go.Proofs.YtekkofldhhdpgaaGreat

end

section

namespace Go.Proofs.YtekkofldhhdpgaaGreat
open Go.ChangeShapes Go.WideShapes Go.ChangeAt Go.RowKit Go.Deep

structure CfgFit (c:Cfg):Prop where
 room:(Lit.int .i64 c.room).wf=true
 burst:(Lit.int .i64 c.burst).wf=true
 rate:(Lit.int .i64 c.rate).wf=true
 per:(Lit.int .i64 c.per).wf=true

structure BktFit (b:Bkt):Prop where
 tok:(Lit.int .i64 b.tok).wf=true
 at':(Lit.int .i64 b.at').wf=true

section
variable {H:Type} {enc:TypeId × Value→H} {w:World} {base:Nat} {spare:Nat→Bool} {held:Bool}

theorem list4P {α:Type} {l:List α} (h:l.length=4):∃ a b c d,l=[a,b,c,d]:=by
 match l,h with
 | [a,b,c,d],_ => exact⟨a,b,c,d,rfl⟩

theorem trod_intP {fuel:Nat} {cs:List Value} {x:DataW H × List MemPlace} (h:DataW.trod enc Tryz.prog w base spare held fuel 3 cs=some x):∃ z,cs=[.int .i64 z]∧(Lit.int .i64 z).wf=true:=by
 obtain⟨z,e,_,hw⟩:=DataW.trod_int Tryz.underlying3 h
 exact⟨z,e,hw⟩

theorem trod_cfg {fuel:Nat} {cs:List Value} {x:DataW H × List MemPlace} (h:DataW.trod enc Tryz.prog w base spare held fuel 44 cs=some x) :
  ∃ v:Cfg,cs=[.int .i64 v.room,.int .i64 v.burst,.int .i64 v.rate,.int .i64 v.per]∧CfgFit v:=by
 obtain⟨xs,n,_,_,hl,hx,hf⟩:=DataW.trod_struct Tryz.underlying44 h
 have c35:Tryz.prog.cellsOf 44=4:=by kernel_rfl
 have c3:Tryz.prog.cellsOf 3=1:=by kernel_rfl
 rw [c35] at hl
 obtain⟨a,b,c,d,rfl⟩:=list4P hl
 have get:∀ i,i < 4→xs[i]?=some (xs.getD i (.nil,[])):=fun i hi => by
  have:i < xs.length:=by rw [hx]; exact hi
  simp [List.getD,List.getElem?_eq_getElem this]
 have f0:DataW.trod enc Tryz.prog w base spare held n 3 (([a,b,c,d].drop 0).take (Tryz.prog.cellsOf 3))=some (xs.getD 0 (.nil,[])):=(hf 0 _ rfl).trans (get 0 (by omega))
 have f1:DataW.trod enc Tryz.prog w base spare held n 3 (([a,b,c,d].drop 1).take (Tryz.prog.cellsOf 3))=some (xs.getD 1 (.nil,[])):=(hf 1 _ rfl).trans (get 1 (by omega))
 have f2:DataW.trod enc Tryz.prog w base spare held n 3 (([a,b,c,d].drop 2).take (Tryz.prog.cellsOf 3))=some (xs.getD 2 (.nil,[])):=(hf 2 _ rfl).trans (get 2 (by omega))
 have f3:DataW.trod enc Tryz.prog w base spare held n 3 (([a,b,c,d].drop 3).take (Tryz.prog.cellsOf 3))=some (xs.getD 3 (.nil,[])):=(hf 3 _ rfl).trans (get 3 (by omega))
 rw [c3] at f0 f1 f2 f3
 obtain⟨z0,e0,w0⟩:=trod_intP f0
 obtain⟨z1,e1,w1⟩:=trod_intP f1
 obtain⟨z2,e2,w2⟩:=trod_intP f2
 obtain⟨z3,e3,w3⟩:=trod_intP f3
 simp at e0 e1 e2 e3
 subst e0 e1 e2 e3
 exact⟨⟨z0,z1,z2,z3⟩,rfl,⟨w0,w1,w2,w3⟩⟩

theorem open_cfg {r:Reach} {b0:Nat} {v:Value} {d:DataW H} {p:List MemPlace} (hv:Value.okWide Tryz.prog w r b0 44 v) (h:DataW.Trod enc Tryz.prog w base spare held 44 v d p) :
  ∃ c:Cfg,v=.agg #[.int .i64 c.room,.int .i64 c.burst,.int .i64 c.rate,.int .i64 c.per]∧CfgFit c:=by
 obtain⟨cs,rfl,_⟩:=okWide_struct Tryz.underlying44 hv
 obtain⟨fuel,hf⟩:=h
 obtain⟨c,hc,w1⟩:=trod_cfg hf
 refine ⟨c,?_,w1⟩
 obtain⟨l⟩:=cs
 simp [Value.cells] at hc
 rw [hc]

end
end Go.Proofs.YtekkofldhhdpgaaGreat

end

section

namespace Go.Proofs.YtekkofldhhdpgaaGreat
open Go.RowKit Go.ChangeMaps Go.MapKept

def fnVal:Option (Int × Nat)→Value
 | some x => .func (.func x.2) #[] #[]
 | none => .nilFunc

def fnData:Option (Int × Nat)→DataW Unit
 | some x => .lit (.int .i64 x.2)
 | none => .lit (.bool false)

def fnElem:Value→Option (DataW Unit × List MemPlace)
 | .func (.func f) ⟨[]⟩ ⟨[]⟩ => some (.lit (.int .i64 f),[])
 | .nilFunc => some (.lit (.bool false),[])
 | _ => none

theorem fnElem_inv {v:Value} {z:DataW Unit × List MemPlace} (h:fnElem v=some z) (o:Option (Int × Nat)) (hz:z.1=fnData o):v=fnVal o:=by
 unfold fnElem at h
 split at h
 ·rename_i f
  obtain rfl:=(Option.some.inj h).symm
  cases o with
  | none => simp [fnData] at hz
  | some x =>
   obtain⟨k,g⟩:=x
   simp [fnData] at hz
   obtain rfl:=Int.ofNat.inj hz
   rfl
 ·obtain rfl:=(Option.some.inj h).symm
  cases o with
  | none => rfl
  | some x => simp [fnData] at hz
 ·cases h

def FnMap (w:World) (B:Nat) (l:List (Int × Nat)):Prop :=
 ∃ D:DataW Unit,w.ownsMap Tryz.prog 3 fnElem B l.length D ∧
  ∀ k:Int,Maps.has D (.int .i64 k)=l.any (fun x => x.1 == k)∧D.atKey (.int .i64 k) (.lit (.bool false))=fnData (l.find? fun x => x.1 == k)

theorem fnMap_made (w:World):FnMap (w.alloc (.map #[] 0)) w.heap.size [] :=
 ⟨.map [],World.ownsMap_made w _ _ _,fun _ => ⟨rfl,rfl⟩⟩

theorem FnMap.lt {w:World} {B:Nat} {l:List (Int × Nat)} (h:FnMap w B l):B < w.heap.size:=by
 obtain⟨_,h,_⟩:=h
 exact h.lt

theorem FnMap.later {w w':World} {B:Nat} {l:List (Int × Nat)} (h:FnMap w B l) (hb:Below w.heap.size w w'):FnMap w' B l:=by
 have hlt:=h.lt
 obtain⟨D,⟨es,clock,h2,h3,h4,h5⟩,h6⟩:=h
 exact⟨D,⟨es,clock,(hb.block B hlt).trans h2,h3,h4,h5⟩,h6⟩

end Go.Proofs.YtekkofldhhdpgaaGreat

end

section

namespace Go.Proofs.YtekkofldhhdpgaaGreat
open Go.RowKit Go.ChangeMaps Go.MapKept

theorem zeroFnC (w:World):(zeroValue 36).run Tryz.prog w=.ok .nilFunc w:=by kernel_rfl

theorem FnMap.lookC {w:World} {B:Nat} {l:List (Int × Nat)} (h:FnMap w B l) (k:Int) (hk:(Lit.int .i64 k).wf=true) :
  (Instr.lookup 97 (.map (some B)) (.int .i64 k) true).run Tryz.prog w=.ok (.tuple #[fnVal (l.find? fun x => x.1 == k),.bool (l.any fun x => x.1 == k)]) w:=by
 obtain⟨D,h2,h3⟩:=h
 obtain⟨v,ps,hrun,hv⟩:=h2.look_ok (Maps.int_keyed Tryz.underlying3) Tryz.underlying97 (zeroFnC w) (show fnElem .nilFunc=some (.lit (.bool false),[]) from rfl) (Maps.keyOf_int_mk Tryz.underlying3 hk)
 rw [(h3 k).2] at hv
 rw [fnElem_inv hv _ rfl,(h3 k).1] at hrun
 exact hrun

theorem wpList_fnC {w:World} {ops:Array Oper} {rest:List Oper} {o:Oper} {a:Act} {Q:Exit→Act→World→Prop}
  (hg:o.guard=none) (m x v:Operand) (hop:o.op=Op.insert 97 m x v) (B:Nat) (l:List (Int × Nat)) (hm:a.eval m=.map (some B)) (hown:FnMap w B l) (hl:l.length≤100)
  (k:Int) (hk:(Lit.int .i64 k).wf=true) (f:Nat) (hx:a.eval x=.int .i64 k) (hv:a.eval v=.func (.func f) #[] #[])
  (hK:∀ w',FnMap w' B ((k,f) :: l)→w.grownBy w' (some B)→wpList Tryz.prog ops Q rest (a.put o.dst undef) w') :
  wpList Tryz.prog ops Q (o :: rest) a w:=by
 obtain⟨D,h2,h3⟩:=hown
 refine wpList_plain hg fun K' hK' => ?_
 obtain⟨w',hrun,h6,h7⟩:=h2.update (Maps.int_keyed Tryz.underlying3) Tryz.underlying97 (by unfold maxLen; omega) (Maps.keyOf_int_mk Tryz.underlying3 hk) (show fnElem (.func (.func f) #[] #[])=some (.lit (.int .i64 f),[]) from rfl)
 unfold Oper.wp
 simp [execOp,hop,hm,hx,hv,hrun,Result.andThen]
 refine hK' _ _ ?_
 have hT:=h2.tidy (Maps.int_keyed Tryz.underlying3)
 refine hK w' ⟨_,h6,fun y => ?_⟩ h7
 by_cases e:y=k
 ·subst e
  rw [Maps.has_put_same hT.isMap (show WideAt.IsKeyLit (.int .i64 y) from True.intro),Maps.atKey_put_same hT.isMap (show WideAt.IsKeyLit (.int .i64 y) from True.intro)]
  simp [fnData]
 ·have hne:(Lit.int .i64 y) ≠ .int .i64 k:=fun h => e (by injection h)
  rw [Maps.has_put_other hne,Maps.atKey_put_other hne,(h3 y).1,(h3 y).2]
  have e':(k == y)=false:=by simpa using fun h => e h.symm
  simp [e']

def kindFnsC:List (Int × Nat):=[(3,98),(2,97),(1,96)]

theorem kindsC_any (w:World):Calls Tryz.prog 59 #[] w fun e w' => e=.returned (.map (some w.heap.size))∧FnMap w' w.heap.size kindFnsC∧Below w.heap.size w w':=by
 have hmm:=fun w => run_makeMap (P:=Tryz.prog) 97 w
 have H0:=hZq (fnMap_made w)
 have B0:Hid (Below w.heap.size w (w.alloc (.map #[] 0))):=hZq ((Below.refl _ _).alloc (Nat.le_refl _) _)
 go_enter Tryz.func59,Tryz.ntmps59
 go_wp2_with (first
  | (refine wpList_fnC rfl _ _ _ rfl w.heap.size [] rfl H0.out (by decide) 1 (by decide) 96 rfl rfl ?_; intro w1 h g; (have H1:=hZq h); (have B1:Hid (Below w.heap.size w w1):=hZq (B0.out.grown g B0.out.size (by intro k hk; injection hk with hk; omega))); clear h g H0)
  | (refine wpList_fnC rfl _ _ _ rfl w.heap.size [(1,96)] rfl H1.out (by decide) 2 (by decide) 97 rfl rfl ?_; intro w2 h g; (have H2:=hZq h); (have B2:Hid (Below w.heap.size w w2):=hZq (B1.out.grown g B1.out.size (by intro k hk; injection hk with hk; omega))); clear h g H1)
  | (refine wpList_fnC rfl _ _ _ rfl w.heap.size [(2,97),(1,96)] rfl H2.out (by decide) 3 (by decide) 98 rfl rfl ?_; intro w3 h g; (have H3:=hZq h); (have B3:Hid (Below w.heap.size w w3):=hZq (B2.out.grown g B2.out.size (by intro k hk; injection hk with hk; omega))); clear h g H2))
 go_ret
 exact⟨rfl,H3.out,B3.out⟩

end Go.Proofs.YtekkofldhhdpgaaGreat

end
